/- Texts put together: Plain, Lies, RowBase, LaidV. -/
import Derived.Test.YtmijlcilnaeppaaGreatDoorRows
import Derived.WalkKit
import Derived.ProofKit
import Derived.OpenShut
import Derived.Below
import Derived.Deep.DeepHandedRow
import Derived.LaidLaws
import Derived.OwnWalk
import Derived.Deep.AppendLies
import Derived.Carry
import Derived.ChangeSlices
import Derived.Deep.Slices
import Derived.Lib.SmallJoins
import Derived.Test.YtmijlcilnaeppaaGreatDoorCards
import Derived.Test.YtmijlcilnaeppaaGreatDoorTie
import Derived.Test.YtmijlcilnaeppaaGreatDoorBun2
import Derived.Test.YtmijlcilnaeppaaGreatDoorBun3
import Derived.Deep.DeepWitnessRowRef
import Derived.Lay
import Derived.PinnedBridge
import Derived.Lib.LaidU8T
import Derived.Stop.LaidErr
import Derived.MakeChecks
import Derived.SevenTiedAt
/- The frame of a row that lists no variable. -/
set_option linter.unusedSimpArgs false
set_option linter.unusedVariables false
namespace Go.Proofs.YtmijlcilnaeppaaGreatDoor
open Go Go.ChangeShapes Go.WideShapes Go.ChangeAt Go.RowKit

/-- 'post' of a call that leaves all blocks that were there as they were -/
theorem post_of_below {H : Type} {enc : TypeId × Value → H} {P : Program} {f : Func} {s : ChangeSpec} {apart fresh handsOn again : Bool} {W W' : World} {args : Array Value} {v : Value} {ds gs : List (DataW H)} {before pa pv : List MemPlace}
    (hW : DataW.Whole enc P f.params.toList s.vars apart W args.toList ds gs before)
    (hres : ∀ (b : Nat) (sp : Nat → Bool) (hd : Bool), DataW.TrodAll enc P W' b sp hd f.resultTypes.toList (v.resultList f.resultTypes.size) (s.fn H (ds ++ gs)).results [])
    (hargs : ∀ sp : Nat → Bool, (∀ p ∈ before, sp p.block = true) → DataW.TrodAll enc P W' 0 sp true f.params.toList args.toList (s.fn H (ds ++ gs)).args pa)
    (hvars : ∀ sp : Nat → Bool, (∀ p ∈ before, sp p.block = true) → DataW.TrodVars enc P W' sp s.vars (s.fn H (ds ++ gs)).vars pv)
    (hps : before = pa ++ pv) (hb : Below W.heap.size W W')
    (hok : ∀ (j : Nat) (t : TypeId) (r : Value), f.resultTypes[j]? = some t → (v.resultList f.resultTypes.size)[j]? = some r → Value.okWide P W' .any 0 t r) :
    s.post enc P f apart fresh handsOn again W args v W' := by
  have hold : ∀ p ∈ before, (fun b => decide (b < W.heap.size)) p.block = true := fun p hp => by simpa using hW.lt p hp
  refine ⟨ds, gs, before, [], pa, pv, hW, hres _ _ _, hargs _ hold, hvars _ hold, hb.frame _, fun _ => ?_⟩
  have hlt : ∀ p ∈ before, p.block < W.heap.size := fun p hp => by simpa using hW.lt p hp
  obtain ⟨_, _, _, _, _, hz, hn⟩ := hW
  refine ⟨hok, _, _, ([] ++ pa) ++ pv, ⟨[] ++ pa, pv, trodAll_append (hargs _ (fun _ _ => rfl)) (hres _ _ _), hvars _ (fun _ _ => rfl), rfl, ?_, ?_⟩, ?_⟩
  · intro b off hp
    have hp' : MemPlace.cell b off ∈ before := by rw [hps]; simpa using hp
    rw [hb.frozen (p := ⟨b, off, none⟩) (hlt _ hp')]
    exact hz b off hp'
  · intro ha
    have := hn ha
    rw [hps] at this
    simpa using this
  · intro p hp _
    rw [hps]
    simpa using hp

theorem own : ownKnob Tryz.prog.godebug = none := by kernel_rfl
noncomputable def plainWorld (os : Os) : World := World.holding Tryz.prog os ⟨#[], #[], []⟩
theorem laid_none (P : Program) (w : World) : laidMet P [] w := laidMet_nil _ _
end Go.Proofs.YtmijlcilnaeppaaGreatDoor

/- A slice that reads as cells. -/
set_option linter.unusedSimpArgs false
set_option linter.unusedVariables false
namespace Go.Proofs.YtmijlcilnaeppaaGreatDoor
open Go Go.RowKit

/-- a slice that reads as these cells, each element of so many -/
def Lies (W : World) (v : Value) (n size : Nat) (xs : List Value) : Prop :=
  xs.length = n * size ∧ ((n = 0 ∧ ∃ p c, v = .slice p 0 c) ∨ ∃ b off c, v = .slice (some ⟨b, off, none⟩) n c ∧ b < W.heap.size ∧ ∀ j u, xs[j]? = some u → W.cell? ⟨b, off + j, none⟩ = some u)
theorem Lies.below {W W' : World} {v : Value} {n size : Nat} {xs : List Value} (h : Lies W v n size xs) (hb : Below W.heap.size W W') : Lies W' v n size xs := by
  obtain ⟨h1, h2 | ⟨b, off, c, hv, hlt, hc⟩⟩ := h
  · exact ⟨h1, .inl h2⟩
  · exact ⟨h1, .inr ⟨b, off, c, hv, Nat.lt_of_lt_of_le hlt hb.size, fun j u hu => by rw [hb.cell (p := ⟨b, off + j, none⟩) hlt]; exact hc j u hu⟩⟩
theorem Lies.own {W : World} {base : Nat} {e : TypeId} {v : Value} {n size : Nat} {xs : List Value} (h : W.ownsRow base e size v n xs) : Lies W v n size xs := by
  refine ⟨h.1, ?_⟩
  rcases Nat.eq_zero_or_pos n with rfl | hn
  · rcases h.2 with ⟨hv, _⟩ | ⟨g, cap, _, hv, _⟩
    · exact .inl ⟨rfl, none, 0, hv⟩
    · exact .inl ⟨rfl, _, cap, hv⟩
  · obtain ⟨g, cap, rfl, _, hlt⟩ := h.form hn
    exact .inr ⟨g, 0, cap, rfl, hlt, fun j u hu => by have := h.cells (g := g) rfl j u hu; rw [Nat.zero_add]; rwa [show (⟨g, 0, none⟩ : Addr).add j = ⟨g, j, none⟩ from by unfold Addr.add; split <;> simp_all] at this⟩

end Go.Proofs.YtmijlcilnaeppaaGreatDoor

/- The frame of a row: whatever a call leaves, its arguments read as before; and slices, opened. -/
set_option linter.unusedSimpArgs false
set_option linter.unusedVariables false
namespace Go.Proofs.YtmijlcilnaeppaaGreatDoor
open Go Go.ChangeShapes Go.WideShapes Go.ChangeAt Go.RowKit

theorem trodAll_stays {H : Type} {enc : TypeId × Value → H} {P : Program} (hl : laidOutB P = true) {W W' : World} {sp : Nat → Bool} (hb : Below W.heap.size W W') :
    ∀ (ts : List TypeId) (vs : List Value) (ds : List (DataW H)) (ps : List MemPlace), ts.all (fun t => P.readableRec t && decide (t < P.types.size)) = true → (∀ x ∈ ps, x.block < W.heap.size) → (∀ x ∈ ps, sp x.block = true) →
      DataW.TrodAll enc P W 0 (fun _ => true) true ts vs ds ps → DataW.TrodAll enc P W' 0 sp true ts vs ds ps
  | [], [], [], _, _, _, _, h => h
  | t :: ts, v :: vs, d :: ds, ps, hr, hlt, hsp, h => by
    obtain ⟨p, q, h0, h1, rfl⟩ := h
    simp only [List.all_cons, Bool.and_eq_true, decide_eq_true_eq] at hr
    exact ⟨p, q, WideElems.Trod_stays hl hr.1.1 hr.1.2 h0 (fun x hx => hb.same (hlt x (List.mem_append_left _ hx))) (fun x hx => hsp x (List.mem_append_left _ hx)),
      trodAll_stays hl hb ts vs ds q hr.2 (fun x hx => hlt x (List.mem_append_right _ hx)) (fun x hx => hsp x (List.mem_append_right _ hx)) h1, rfl⟩
  | [], [], _ :: _, _, _, _, _, h => h.elim
  | [], _ :: _, _, _, _, _, _, h => h.elim
  | _ :: _, [], _, _, _, _, _, h => h.elim
  | _ :: _, _ :: _, [], _, _, _, _, h => h.elim

/-- 'post' of a law that answers true and leaves all blocks that were there as they were -/
theorem true_post {H : Type} {enc : TypeId × Value → H} {P : Program} {f : Func} {s : ChangeSpec} {tb : TypeId} {W W' : World} {args : Array Value} {ds gs : List (DataW H)} {before : List MemPlace}
    (hl : laidOutB P = true) (hr : f.params.toList.all (fun t => P.readableRec t && decide (t < P.types.size)) = true) (hres : f.resultTypes = #[tb]) (htb : P.underlying tb = some .bool) (hv : s.vars = [])
    (hf1 : (s.fn H (ds ++ gs)).results = [.lit (.bool true)]) (hf2 : (s.fn H (ds ++ gs)).args = ds) (hf3 : (s.fn H (ds ++ gs)).vars = [])
    (hW : DataW.Whole enc P f.params.toList s.vars false W args.toList ds gs before) (hb : Below W.heap.size W W') :
    s.post enc P f false true false false W args (.bool true) W' := by
  have hW' := hW
  obtain ⟨p, q, hA0, hV, rfl, hfz, hnd⟩ := hW
  rw [hv] at hV
  obtain ⟨rfl, rfl⟩ := trodVars_none hV
  refine post_of_below (pa := p) (pv := []) hW' (fun _ _ _ => ?_) (fun sp hsp => ?_) (fun _ _ => ?_) (by simp) hb (ok_one hres rfl (okWide_bool_mk htb _))
  · rw [hf1, hres]
    exact trodAll_cons_mk (shut_bool htb _) trodAll_mk0
  · rw [hf2]
    exact trodAll_stays hl hb _ _ _ _ hr (fun x hx => by simpa using hW'.lt x (by simpa using hx)) (fun x hx => hsp x (by simpa using hx)) hA0
  · rw [hf3, hv]
    rfl

theorem add_plain (b o j : Nat) : (⟨b, o, none⟩ : Addr).add j = ⟨b, o + j, none⟩ := by
  unfold Addr.add
  split
  · next h => rw [h]; rfl
  · rfl

/-- A slice opened: its elements are of a kind that is known by its cells. -/
theorem open_lies {α : Type} {H : Type} {enc : TypeId × Value → H} {P : Program} {W : World} {sp : Nat → Bool} {t e : TypeId} {v : Value} {d : DataW H} {ps : List MemPlace} (size : Nat) (cells : α → List Value) (good : α → Prop)
    (ht : P.underlying t = some (.slice e)) (hs : P.cellsOf e = size) (hpos : 0 < size)
    (hel : ∀ (n : Nat) (cs : List Value) (x : DataW H × List MemPlace), cs.length = size → DataW.trod enc P W 0 sp true n e cs = some x → ∃ a, cs = cells a ∧ good a)
    (hone : ∃ c, v.cells = #[c] ∧ v = c) (h : DataW.Trod enc P W 0 sp true t v d ps) (hlt : ∀ x ∈ ps, x.block < W.heap.size) :
    ∃ (p : Option Addr) (n c : Nat) (xs : List α), v = .slice p n c ∧ xs.length = n ∧ n ≤ c ∧ c ≤ maxLen ∧ Lies W v n size (xs.flatMap cells) ∧ (∀ a ∈ xs, good a) ∧ (∀ a ∈ xs, (cells a).length = size) := by
  obtain ⟨fuel, hf⟩ := h
  obtain ⟨c, hc, rfl⟩ := hone
  rw [hc] at hf
  rcases Deep.open_slice ht hf with ⟨hcs, hx⟩ | ⟨a, len, cap, m, n, D, Pl, hcs, hba, hl, hm, hmm, hx, hall⟩
  · simp at hcs
    subst hcs
    exact ⟨none, 0, 0, [], rfl, rfl, Nat.le_refl _, by unfold maxLen; omega, ⟨by simp, .inl ⟨rfl, none, 0, rfl⟩⟩, by simp, by simp⟩
  · simp at hcs
    subst hcs
    rw [hs] at hall hx
    have hlm : len ≤ m := by rw [hmm]; split <;> omega
    have hch : ∀ i, i < len → ∃ x : α, W.cells? 0 (a.add (i * size)) size = some (cells x) ∧ good x ∧ (cells x).length = size := fun i hi => by
      obtain ⟨cs', h1, h2⟩ := hall i (by omega)
      obtain ⟨_, hlen, _⟩ := World.cells?_some h1
      obtain ⟨x, rfl, hg⟩ := hel n cs' _ hlen h2
      exact ⟨x, h1, hg, hlen⟩
    rcases Nat.eq_zero_or_pos len with rfl | hlpos
    · exact ⟨some a, 0, cap, [], rfl, rfl, hl, hm, ⟨by simp, .inl ⟨rfl, some a, cap, rfl⟩⟩, by simp, by simp⟩
    have hxs : ∃ xs : List α, xs.length = len ∧ ∀ (i : Nat) (hi : i < xs.length), W.cells? 0 (a.add (i * size)) size = some (cells xs[i]) ∧ good xs[i] ∧ (cells xs[i]).length = size := by
      clear hx hall hl hlm hlpos hf hc hmm
      induction len with
      | zero => exact ⟨[], rfl, fun i hi => absurd hi (by simp)⟩
      | succ k ih =>
        obtain ⟨xs, hx1, hx2⟩ := ih (fun i hi => hch i (by omega))
        obtain ⟨x, hx⟩ := hch k (by omega)
        refine ⟨xs ++ [x], by simp [hx1], fun i hi => ?_⟩
        by_cases hik : i < xs.length
        · rw [List.getElem_append_left hik]; exact hx2 i hik
        · have : i = k := by simp at hi; omega
          subst this
          rw [List.getElem_append_right (by omega)]
          simp [hx1]
          exact hx
    obtain ⟨xs, hx1, hx2⟩ := hxs
    have hlen : ∀ x ∈ xs, (cells x).length = size := fun x hx => by
      obtain ⟨i, hi, rfl⟩ := List.mem_iff_getElem.1 hx
      exact (hx2 i hi).2.2
    have hgood : ∀ x ∈ xs, good x := fun x hx => by
      obtain ⟨i, hi, rfl⟩ := List.mem_iff_getElem.1 hx
      exact (hx2 i hi).2.1
    have hspot : a = ⟨a.block, a.off, none⟩ := by
      obtain ⟨_, hl0, h0⟩ := World.cells?_some (hx2 0 (by omega)).1
      have h00 := h0 0 hpos
      have hz : (a.add (0 * size)).add 0 = a := by unfold Addr.add; simp
      rw [hz] at h00
      have hsome : ∃ u, (cells xs[0])[0]? = some u := by
        rw [List.getElem?_eq_getElem (by rw [hl0]; exact hpos)]; exact ⟨_, rfl⟩
      obtain ⟨u, hu⟩ := hsome
      rw [hu] at h00
      have := World.cell?_spot h00
      cases a; simp_all
    have hblk : a.block < W.heap.size := by
      simp only [Prod.mk.injEq] at hx
      have hmem : (MemPlace.row a (m * size))[0]? ≠ none := by
        have hmp : 0 < m * size := Nat.mul_pos (by omega) hpos
        simp [MemPlace.row]
        omega
      obtain ⟨y, hy⟩ := Option.ne_none_iff_exists'.1 hmem
      have hyb : y.block = a.block := by
        have hmp : 0 < m * size := Nat.mul_pos (by omega) hpos
        rw [MemPlace.row] at hy
        simp [hmp] at hy
        rw [← hy]; simp [MemPlace.block, Addr.add]
      rw [← hyb]
      apply hlt
      rw [hx.2]
      exact List.mem_append_left _ (List.mem_of_getElem? hy)
    refine ⟨some a, len, cap, xs, rfl, hx1, hl, hm, ⟨?_, .inr ⟨a.block, a.off, cap, by rw [← hspot], hblk, ?_⟩⟩, hgood, hlen⟩
    · rw [List.length_flatMap, ← hx1]
      clear hx1 hx2 hgood
      induction xs with
      | nil => simp
      | cons x r ih =>
        simp only [List.map_cons, List.sum_cons, List.length_cons]
        rw [ih (fun y hy => hlen y (List.mem_cons_of_mem _ hy)), hlen x List.mem_cons_self, Nat.succ_mul, Nat.add_comm]
    · intro j u hu
      have key : ∀ (ys : List α) (o : Nat), (∀ y ∈ ys, (cells y).length = size) → (∀ (i : Nat) (hi : i < ys.length), W.cells? 0 (a.add ((o + i) * size)) size = some (cells ys[i])) → ∀ j u, (ys.flatMap cells)[j]? = some u → W.cell? (a.add (o * size + j)) = some u := by
        intro ys
        induction ys with
        | nil => intro o _ _ j u hu; simp at hu
        | cons y r ih =>
          intro o hl' hc' j u hu
          rw [List.flatMap_cons] at hu
          have hly := hl' y List.mem_cons_self
          by_cases hj : j < size
          · rw [List.getElem?_append_left (by omega)] at hu
            obtain ⟨_, _, h0⟩ := World.cells?_some (hc' 0 (by simp))
            have := h0 j hj
            rw [Deep.add_add] at this
            simp only [Nat.add_zero, List.getElem_cons_zero] at this
            rw [this, hu]
          · rw [List.getElem?_append_right (by omega), hly] at hu
            have := ih (o + 1) (fun z hz => hl' z (List.mem_cons_of_mem _ hz)) (fun i hi => by
              have := hc' (i + 1) (by simp; omega)
              rw [show o + 1 + i = o + (i + 1) from by omega]
              simpa using this) (j - size) u hu
            rw [show (o + 1) * size + (j - size) = o * size + j from by rw [Nat.succ_mul]; omega] at this
            exact this
      have := key xs 0 hlen (fun i hi => by rw [Nat.zero_add]; exact (hx2 i hi).1) j u hu
      rw [Nat.zero_mul, Nat.zero_add, hspot, add_plain] at this
      exact this
end Go.Proofs.YtmijlcilnaeppaaGreatDoor

/- What a row's list of variables gives a walk over values: the two tables of utf8, and wire's error; a world in which they lie. -/
set_option linter.unusedSimpArgs false
set_option linter.unusedVariables false
namespace Go.Proofs.YtmijlcilnaeppaaGreatDoor
open Go Go.ChangeShapes Go.WideShapes Go.ChangeAt Go.RowKit

theorem gNone : Tryz.prog.globalNamed "moraine/wire.errNone" = some 0 := by kernel_rfl
theorem gNoneType : (Tryz.prog.globals[0]?).map (·.type) = some 82 := by kernel_rfl
theorem starES : "*" ++ "errors.errorString" = "*errors.errorString" := by decide
theorem rowES (u : TypeId) (h : Tryz.prog.typeName? 3 u = some "*errors.errorString") : u = 157 :=
  typeName_ptr_named (nm := "errors.errorString") (by rw [starES]; kernel_rfl) (by kernel_rfl) (by decide) u (by rw [starES]; exact h)
theorem cellsES : Tryz.prog.cellsOf 180 = 1 := by kernel_rfl
theorem cellsStr : Tryz.prog.cellsOf 9 = 1 := by kernel_rfl

/-- wire's error lies as start-up laid it, wherever it stands in the list -/
theorem errLies_of {r : List (String × DataW Unit)} {W : World} (h : laidMet Tryz.prog (("moraine/wire.errNone", Rows.laid_moraine_wire_errNone) :: r) W) : ∃ ea, errLies ea W := by
  obtain ⟨a, s, hv, _⟩ := laid_sentinel (P := Tryz.prog) (r := r) h gNone gNoneType Tryz.underlying82 rowES Tryz.underlying157 Tryz.underlying180 rfl rfl Tryz.underlying9 cellsES cellsStr
  exact ⟨a, by simpa [errLies] using World.var?_cell gNone hv 0⟩
/-- the tables of utf8 lie -/
theorem tabs_of {l : List (String × DataW Unit)} {W : World} (h : laidMet Tryz.prog l W) (h1 : ("unicode/utf8.first", Rows.laid_unicode_utf8_first) ∈ l) (h2 : ("unicode/utf8.acceptRanges", Rows.laid_unicode_utf8_acceptRanges) ∈ l) : Tabs W :=
  Go.Proofs.utf8Tabs_of_readsT (U8Types.of196 Tryz.laysValid) ⟨by kernel_rfl, by kernel_rfl, by kernel_rfl, by kernel_rfl, by kernel_rfl, by kernel_rfl, by kernel_rfl⟩
    (by have := Lib.laidMet.reads h h1; unfold Rows.laid_unicode_utf8_first at this; rwa [Pinned.utf8First_eq] at this) (Lib.laidMet.reads h h2)

theorem laidOut : laidOutB Tryz.prog = true := by kernel_rfl
end Go.Proofs.YtmijlcilnaeppaaGreatDoor

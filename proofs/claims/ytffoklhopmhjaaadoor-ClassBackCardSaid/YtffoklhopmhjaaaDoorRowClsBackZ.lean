/- Texts put together: Plain, RowBase, LaidV, RowOpensC, RowClsBack. -/
import Derived.Test.YtffoklhopmhjaaaDoorRows
import Derived.WalkKit
import Derived.ProofKit
import Derived.OpenShut
import Derived.Below
import Derived.Deep.DeepHandedRow
import Derived.LaidLaws
import Derived.Carry
import Derived.ChangeSlices
import Derived.Deep.Slices
import Derived.Lib.SmallJoins
import Derived.Test.YtffoklhopmhjaaaDoorLies
import Derived.Test.YtffoklhopmhjaaaDoorCards
import Derived.Test.YtffoklhopmhjaaaDoorTie
import Derived.Test.YtffoklhopmhjaaaDoorWireShown
import Derived.Test.YtffoklhopmhjaaaDoorWords
import Derived.Deep.DeepWitnessRowRef
import Derived.Lay
import Derived.PinnedBridge
import Derived.Lib.LaidU8T
import Derived.Stop.LaidErr
import Derived.MakeChecks
import Derived.SevenTiedAt
import Derived.Test.YtffoklhopmhjaaaDoorClsRaw
import Derived.Test.YtffoklhopmhjaaaDoorClsOf
import Derived.Deep.Strs
import Derived.Test.YtffoklhopmhjaaaDoorClsBunB
/- The frame of a row that lists no variable. -/
set_option linter.unusedSimpArgs false
set_option linter.unusedVariables false
namespace Go.Proofs.YtffoklhopmhjaaaDoor
open Go Go.ChangeShapes Go.WideShapes Go.ChangeAt Go.RowKit

/-- 'post' of a call that leaves all blocks that were there as they were -/
theorem post_of_below {H : Type} {enc : TypeId × Value → H} {P : Program} {f : Func} {s : ChangeSpec} {apart fresh handsOn again : Bool} {W W' : World} {args : Array Value} {v : Value} {ds gs : List (DataW H)} {before pa pv : List MemPlace}
    (hW : DataW.Whole enc P f.params.toList s.vars apart W args.toList ds gs before)
    (hres : ∀ (b : Nat) (sp : Nat → Bool) (hd : Bool), DataW.TrodAll enc P W' b sp hd f.resultTypes.toList (v.resultList f.resultTypes.size) (s.fn H (ds ++ gs)).results [])
    (hargs : ∀ sp : Nat → Bool, (∀ p ∈ before, sp p.block = true) → DataW.TrodAll enc P W' 0 sp true f.params.toList args.toList (s.fn H (ds ++ gs)).args pa)
    (hvars : ∀ sp : Nat → Bool, (∀ p ∈ before, sp p.block = true) → DataW.TrodVars enc P W' sp s.vars (s.fn H (ds ++ gs)).vars pv)
    (hps : before = pa ++ pv) (hb : Below W.heap.size W W')
    (hok : ∀ (j : Nat) (t : TypeId) (r : Value), f.resultTypes[j]? = some t → (v.resultList f.resultTypes.size)[j]? = some r → Value.okWide P W' .any 0 t r) :
    s.post enc P f apart fresh handsOn again W args v W' := by
  have hold : ∀ p ∈ before, (fun b => decide (b < W.heap.size)) p.block = true := fun p hp => by simpa using hW.lt p hp
  refine ⟨ds, gs, before, [], pa, pv, hW, hres _ _ _, hargs _ hold, hvars _ hold, hb.frame _, fun _ => ?_⟩
  have hlt : ∀ p ∈ before, p.block < W.heap.size := fun p hp => by simpa using hW.lt p hp
  obtain ⟨_, _, _, _, _, hz, hn⟩ := hW
  refine ⟨hok, _, _, ([] ++ pa) ++ pv, ⟨[] ++ pa, pv, trodAll_append (hargs _ (fun _ _ => rfl)) (hres _ _ _), hvars _ (fun _ _ => rfl), rfl, ?_, ?_⟩, ?_⟩
  · intro b off hp
    have hp' : MemPlace.cell b off ∈ before := by rw [hps]; simpa using hp
    rw [hb.frozen (p := ⟨b, off, none⟩) (hlt _ hp')]
    exact hz b off hp'
  · intro ha
    have := hn ha
    rw [hps] at this
    simpa using this
  · intro p hp _
    rw [hps]
    simpa using hp

theorem own : ownKnob Tryd.prog.godebug = none := by kernel_rfl
noncomputable def plainWorld (os : Os) : World := World.holding Tryd.prog os ⟨#[], #[], []⟩
theorem laid_none (P : Program) (w : World) : laidMet P [] w := laidMet_nil _ _
end Go.Proofs.YtffoklhopmhjaaaDoor

/- The frame of a row: whatever a call leaves, its arguments read as before; and slices, opened. -/
set_option linter.unusedSimpArgs false
set_option linter.unusedVariables false
namespace Go.Proofs.YtffoklhopmhjaaaDoor
open Go Go.ChangeShapes Go.WideShapes Go.ChangeAt Go.RowKit

theorem trodAll_stays {H : Type} {enc : TypeId × Value → H} {P : Program} (hl : laidOutB P = true) {W W' : World} {sp : Nat → Bool} (hb : Below W.heap.size W W') :
    ∀ (ts : List TypeId) (vs : List Value) (ds : List (DataW H)) (ps : List MemPlace), ts.all (fun t => P.readableRec t && decide (t < P.types.size)) = true → (∀ x ∈ ps, x.block < W.heap.size) → (∀ x ∈ ps, sp x.block = true) →
      DataW.TrodAll enc P W 0 (fun _ => true) true ts vs ds ps → DataW.TrodAll enc P W' 0 sp true ts vs ds ps
  | [], [], [], _, _, _, _, h => h
  | t :: ts, v :: vs, d :: ds, ps, hr, hlt, hsp, h => by
    obtain ⟨p, q, h0, h1, rfl⟩ := h
    simp only [List.all_cons, Bool.and_eq_true, decide_eq_true_eq] at hr
    exact ⟨p, q, WideElems.Trod_stays hl hr.1.1 hr.1.2 h0 (fun x hx => hb.same (hlt x (List.mem_append_left _ hx))) (fun x hx => hsp x (List.mem_append_left _ hx)),
      trodAll_stays hl hb ts vs ds q hr.2 (fun x hx => hlt x (List.mem_append_right _ hx)) (fun x hx => hsp x (List.mem_append_right _ hx)) h1, rfl⟩
  | [], [], _ :: _, _, _, _, _, h => h.elim
  | [], _ :: _, _, _, _, _, _, h => h.elim
  | _ :: _, [], _, _, _, _, _, h => h.elim
  | _ :: _, _ :: _, [], _, _, _, _, h => h.elim

/-- 'post' of a law that answers true and leaves all blocks that were there as they were -/
theorem true_post {H : Type} {enc : TypeId × Value → H} {P : Program} {f : Func} {s : ChangeSpec} {tb : TypeId} {W W' : World} {args : Array Value} {ds gs : List (DataW H)} {before : List MemPlace}
    (hl : laidOutB P = true) (hr : f.params.toList.all (fun t => P.readableRec t && decide (t < P.types.size)) = true) (hres : f.resultTypes = #[tb]) (htb : P.underlying tb = some .bool) (hv : s.vars = [])
    (hf1 : (s.fn H (ds ++ gs)).results = [.lit (.bool true)]) (hf2 : (s.fn H (ds ++ gs)).args = ds) (hf3 : (s.fn H (ds ++ gs)).vars = [])
    (hW : DataW.Whole enc P f.params.toList s.vars false W args.toList ds gs before) (hb : Below W.heap.size W W') :
    s.post enc P f false true false false W args (.bool true) W' := by
  have hW' := hW
  obtain ⟨p, q, hA0, hV, rfl, hfz, hnd⟩ := hW
  rw [hv] at hV
  obtain ⟨rfl, rfl⟩ := trodVars_none hV
  refine post_of_below (pa := p) (pv := []) hW' (fun _ _ _ => ?_) (fun sp hsp => ?_) (fun _ _ => ?_) (by simp) hb (ok_one hres rfl (okWide_bool_mk htb _))
  · rw [hf1, hres]
    exact trodAll_cons_mk (shut_bool htb _) trodAll_mk0
  · rw [hf2]
    exact trodAll_stays hl hb _ _ _ _ hr (fun x hx => by simpa using hW'.lt x (by simpa using hx)) (fun x hx => hsp x (by simpa using hx)) hA0
  · rw [hf3, hv]
    rfl

theorem add_plain (b o j : Nat) : (⟨b, o, none⟩ : Addr).add j = ⟨b, o + j, none⟩ := by
  unfold Addr.add
  split
  · next h => rw [h]; rfl
  · rfl

/-- A slice opened: its elements are of a kind that is known by its cells. -/
theorem open_lies {α : Type} {H : Type} {enc : TypeId × Value → H} {P : Program} {W : World} {sp : Nat → Bool} {t e : TypeId} {v : Value} {d : DataW H} {ps : List MemPlace} (size : Nat) (cells : α → List Value) (good : α → Prop)
    (ht : P.underlying t = some (.slice e)) (hs : P.cellsOf e = size) (hpos : 0 < size)
    (hel : ∀ (n : Nat) (cs : List Value) (x : DataW H × List MemPlace), cs.length = size → DataW.trod enc P W 0 sp true n e cs = some x → ∃ a, cs = cells a ∧ good a)
    (hone : ∃ c, v.cells = #[c] ∧ v = c) (h : DataW.Trod enc P W 0 sp true t v d ps) (hlt : ∀ x ∈ ps, x.block < W.heap.size) :
    ∃ (p : Option Addr) (n c : Nat) (xs : List α), v = .slice p n c ∧ xs.length = n ∧ n ≤ c ∧ c ≤ maxLen ∧ Lies W v n size (xs.flatMap cells) ∧ (∀ a ∈ xs, good a) ∧ (∀ a ∈ xs, (cells a).length = size) := by
  obtain ⟨fuel, hf⟩ := h
  obtain ⟨c, hc, rfl⟩ := hone
  rw [hc] at hf
  rcases Deep.open_slice ht hf with ⟨hcs, hx⟩ | ⟨a, len, cap, m, n, D, Pl, hcs, hba, hl, hm, hmm, hx, hall⟩
  · simp at hcs
    subst hcs
    exact ⟨none, 0, 0, [], rfl, rfl, Nat.le_refl _, by unfold maxLen; omega, ⟨by simp, .inl ⟨rfl, none, 0, rfl⟩⟩, by simp, by simp⟩
  · simp at hcs
    subst hcs
    rw [hs] at hall hx
    have hlm : len ≤ m := by rw [hmm]; split <;> omega
    have hch : ∀ i, i < len → ∃ x : α, W.cells? 0 (a.add (i * size)) size = some (cells x) ∧ good x ∧ (cells x).length = size := fun i hi => by
      obtain ⟨cs', h1, h2⟩ := hall i (by omega)
      obtain ⟨_, hlen, _⟩ := World.cells?_some h1
      obtain ⟨x, rfl, hg⟩ := hel n cs' _ hlen h2
      exact ⟨x, h1, hg, hlen⟩
    rcases Nat.eq_zero_or_pos len with rfl | hlpos
    · exact ⟨some a, 0, cap, [], rfl, rfl, hl, hm, ⟨by simp, .inl ⟨rfl, some a, cap, rfl⟩⟩, by simp, by simp⟩
    have hxs : ∃ xs : List α, xs.length = len ∧ ∀ (i : Nat) (hi : i < xs.length), W.cells? 0 (a.add (i * size)) size = some (cells xs[i]) ∧ good xs[i] ∧ (cells xs[i]).length = size := by
      clear hx hall hl hlm hlpos hf hc hmm
      induction len with
      | zero => exact ⟨[], rfl, fun i hi => absurd hi (by simp)⟩
      | succ k ih =>
        obtain ⟨xs, hx1, hx2⟩ := ih (fun i hi => hch i (by omega))
        obtain ⟨x, hx⟩ := hch k (by omega)
        refine ⟨xs ++ [x], by simp [hx1], fun i hi => ?_⟩
        by_cases hik : i < xs.length
        · rw [List.getElem_append_left hik]; exact hx2 i hik
        · have : i = k := by simp at hi; omega
          subst this
          rw [List.getElem_append_right (by omega)]
          simp [hx1]
          exact hx
    obtain ⟨xs, hx1, hx2⟩ := hxs
    have hlen : ∀ x ∈ xs, (cells x).length = size := fun x hx => by
      obtain ⟨i, hi, rfl⟩ := List.mem_iff_getElem.1 hx
      exact (hx2 i hi).2.2
    have hgood : ∀ x ∈ xs, good x := fun x hx => by
      obtain ⟨i, hi, rfl⟩ := List.mem_iff_getElem.1 hx
      exact (hx2 i hi).2.1
    have hspot : a = ⟨a.block, a.off, none⟩ := by
      obtain ⟨_, hl0, h0⟩ := World.cells?_some (hx2 0 (by omega)).1
      have h00 := h0 0 hpos
      have hz : (a.add (0 * size)).add 0 = a := by unfold Addr.add; simp
      rw [hz] at h00
      have hsome : ∃ u, (cells xs[0])[0]? = some u := by
        rw [List.getElem?_eq_getElem (by rw [hl0]; exact hpos)]; exact ⟨_, rfl⟩
      obtain ⟨u, hu⟩ := hsome
      rw [hu] at h00
      have := World.cell?_spot h00
      cases a; simp_all
    have hblk : a.block < W.heap.size := by
      simp only [Prod.mk.injEq] at hx
      have hmem : (MemPlace.row a (m * size))[0]? ≠ none := by
        have hmp : 0 < m * size := Nat.mul_pos (by omega) hpos
        simp [MemPlace.row]
        omega
      obtain ⟨y, hy⟩ := Option.ne_none_iff_exists'.1 hmem
      have hyb : y.block = a.block := by
        have hmp : 0 < m * size := Nat.mul_pos (by omega) hpos
        rw [MemPlace.row] at hy
        simp [hmp] at hy
        rw [← hy]; simp [MemPlace.block, Addr.add]
      rw [← hyb]
      apply hlt
      rw [hx.2]
      exact List.mem_append_left _ (List.mem_of_getElem? hy)
    refine ⟨some a, len, cap, xs, rfl, hx1, hl, hm, ⟨?_, .inr ⟨a.block, a.off, cap, by rw [← hspot], hblk, ?_⟩⟩, hgood, hlen⟩
    · rw [List.length_flatMap, ← hx1]
      clear hx1 hx2 hgood
      induction xs with
      | nil => simp
      | cons x r ih =>
        simp only [List.map_cons, List.sum_cons, List.length_cons]
        rw [ih (fun y hy => hlen y (List.mem_cons_of_mem _ hy)), hlen x List.mem_cons_self, Nat.succ_mul, Nat.add_comm]
    · intro j u hu
      have key : ∀ (ys : List α) (o : Nat), (∀ y ∈ ys, (cells y).length = size) → (∀ (i : Nat) (hi : i < ys.length), W.cells? 0 (a.add ((o + i) * size)) size = some (cells ys[i])) → ∀ j u, (ys.flatMap cells)[j]? = some u → W.cell? (a.add (o * size + j)) = some u := by
        intro ys
        induction ys with
        | nil => intro o _ _ j u hu; simp at hu
        | cons y r ih =>
          intro o hl' hc' j u hu
          rw [List.flatMap_cons] at hu
          have hly := hl' y List.mem_cons_self
          by_cases hj : j < size
          · rw [List.getElem?_append_left (by omega)] at hu
            obtain ⟨_, _, h0⟩ := World.cells?_some (hc' 0 (by simp))
            have := h0 j hj
            rw [Deep.add_add] at this
            simp only [Nat.add_zero, List.getElem_cons_zero] at this
            rw [this, hu]
          · rw [List.getElem?_append_right (by omega), hly] at hu
            have := ih (o + 1) (fun z hz => hl' z (List.mem_cons_of_mem _ hz)) (fun i hi => by
              have := hc' (i + 1) (by simp; omega)
              rw [show o + 1 + i = o + (i + 1) from by omega]
              simpa using this) (j - size) u hu
            rw [show (o + 1) * size + (j - size) = o * size + j from by rw [Nat.succ_mul]; omega] at this
            exact this
      have := key xs 0 hlen (fun i hi => by rw [Nat.zero_add]; exact (hx2 i hi).1) j u hu
      rw [Nat.zero_mul, Nat.zero_add, hspot, add_plain] at this
      exact this
end Go.Proofs.YtffoklhopmhjaaaDoor

/- What a row's list of variables gives a walk over values: the two tables of utf8, and wire's error; a world in which they lie. -/
set_option linter.unusedSimpArgs false
set_option linter.unusedVariables false
namespace Go.Proofs.YtffoklhopmhjaaaDoor
open Go Go.ChangeShapes Go.WideShapes Go.ChangeAt Go.RowKit

theorem gNone : Tryd.prog.globalNamed "moraine/wire.errNone" = some 0 := by kernel_rfl
theorem gNoneType : (Tryd.prog.globals[0]?).map (·.type) = some 71 := by kernel_rfl
theorem starES : "*" ++ "errors.errorString" = "*errors.errorString" := by decide
theorem rowES (u : TypeId) (h : Tryd.prog.typeName? 3 u = some "*errors.errorString") : u = 142 :=
  typeName_ptr_named (nm := "errors.errorString") (by rw [starES]; kernel_rfl) (by kernel_rfl) (by decide) u (by rw [starES]; exact h)
theorem cellsES : Tryd.prog.cellsOf 165 = 1 := by kernel_rfl
theorem cellsStr : Tryd.prog.cellsOf 9 = 1 := by kernel_rfl

/-- wire's error lies as start-up laid it, wherever it stands in the list -/
theorem errLies_of {r : List (String × DataW Unit)} {W : World} (h : laidMet Tryd.prog (("moraine/wire.errNone", Rows.laid_moraine_wire_errNone) :: r) W) : ∃ ea, errLies ea W := by
  obtain ⟨a, s, hv, _⟩ := laid_sentinel (P := Tryd.prog) (r := r) h gNone gNoneType Tryd.underlying71 rowES Tryd.underlying142 Tryd.underlying165 rfl rfl Tryd.underlying9 cellsES cellsStr
  exact ⟨a, by simpa [errLies] using World.var?_cell gNone hv 0⟩
/-- the tables of utf8 lie -/
theorem tabs_of {l : List (String × DataW Unit)} {W : World} (h : laidMet Tryd.prog l W) (h1 : ("unicode/utf8.first", Rows.laid_unicode_utf8_first) ∈ l) (h2 : ("unicode/utf8.acceptRanges", Rows.laid_unicode_utf8_acceptRanges) ∈ l) : Tabs W :=
  Go.Proofs.utf8Tabs_of_readsT (U8Types.of196 Tryd.laysValid) ⟨by kernel_rfl, by kernel_rfl, by kernel_rfl, by kernel_rfl, by kernel_rfl, by kernel_rfl, by kernel_rfl⟩
    (by have := Lib.laidMet.reads h h1; unfold Rows.laid_unicode_utf8_first at this; rwa [Pinned.utf8First_eq] at this) (Lib.laidMet.reads h h2)

theorem laidOut : laidOutB Tryd.prog = true := by kernel_rfl
end Go.Proofs.YtffoklhopmhjaaaDoor

/- The arguments of the class rows, opened: raw numbers of classes. -/
set_option linter.unusedSimpArgs false
set_option linter.unusedVariables false
namespace Go.Proofs.YtffoklhopmhjaaaDoor
open Go Go.ChangeShapes Go.WideShapes Go.ChangeAt Go.RowKit Go.ChangeMaps
theorem maxLen_le {n : Nat} (h : n ≤ maxLen) : n ≤ 9223372036854775807 := by unfold maxLen at h; omega
section
variable {H : Type} {enc : TypeId × Value → H} {W : World} {base : Nat} {v : Value} {d : DataW H} {p : List MemPlace}

set_option maxRecDepth 100000 in
theorem frawOne_of_trod {n : Nat} {cs : List Value} {x : DataW H × List MemPlace} (hl : cs.length = 4) (hx : DataW.trod enc Tryd.prog W 0 (fun _ => true) true n 63 cs = some x) :
    ∃ r : FRaw, cs = r.cells ∧ r.fine := by
  obtain ⟨y0, y1, y2, y3, m, rfl, _, t0, t1, t2, t3⟩ := Joins.trod_struct4 Tryd.underlying63 hx
  match cs, hl with
  | [c0, c1, c2, c3], _ =>
    obtain ⟨k0, h0, _, b0⟩ := DataW.trod_int Tryd.underlying3 t0
    obtain ⟨k1, h1, _, b1⟩ := DataW.trod_int Tryd.underlying3 t1
    obtain ⟨k2, h2, _, b2⟩ := DataW.trod_int Tryd.underlying3 t2
    obtain ⟨k3, h3, _⟩ := DataW.trod_bool Tryd.underlying4 t3
    have q1 : Tryd.prog.cellsOf 3 = 1 := by kernel_rfl
    have q2 : Tryd.prog.cellsOf 4 = 1 := by kernel_rfl
    simp only [q1, q2, List.drop, List.take] at h0 h1 h2 h3
    simp only [List.cons.injEq, and_true] at h0 h1 h2 h3
    subst h0 h1 h2 h3
    exact ⟨⟨k0, k1, k2, k3⟩, rfl, bounds_i64 b0, bounds_i64 b1, bounds_i64 b2⟩
theorem fraw_cells (l : List FRaw) : frawCells l = l.flatMap FRaw.cells := by
  induction l with
  | nil => rfl
  | cons r l ih => show r.cells ++ frawCells l = _; rw [ih]; rfl

set_option maxRecDepth 100000 in
theorem openCRaw (hv : Value.okWide Tryd.prog W .any base 24 v) (h : DataW.Trod enc Tryd.prog W 0 (fun _ => true) true 24 v d p) (hlt : ∀ x ∈ p, x.block < W.heap.size) :
    ∃ (x : CRaw) (b : Option Addr) (c : Nat), v = crawV x b c ∧ x.fine ∧ Lies W (.slice b x.l.length c) x.l.length 4 (frawCells x.l) := by
  obtain ⟨v0, v1, y0, y1, n, rfl, _, rfl, t0, t1⟩ := Joins.open_agg2 Tryd.underlying24 (by kernel_rfl) (by kernel_rfl) hv h
  obtain ⟨k, h0, _, b0⟩ := DataW.trod_int Tryd.underlying3 t0
  simp only [List.cons.injEq, and_true] at h0
  subst h0
  have hs3 : ∃ a len cap, v1 = .slice a len cap := by
    rcases Deep.open_slice Tryd.underlying22 t1 with ⟨hcs, _⟩ | ⟨a, len, cap, _, _, _, _, hcs, _⟩
    · simp at hcs; exact ⟨_, _, _, hcs⟩
    · simp at hcs; exact ⟨_, _, _, hcs⟩
  obtain ⟨a, len, cap, rfl⟩ := hs3
  obtain ⟨b, n', c, xs, e1, e2, e3, e4, e5, e6, _⟩ := open_lies (α := FRaw) 4 FRaw.cells FRaw.fine Tryd.underlying22 (by kernel_rfl) (by decide)
    (fun n cs x hl hx => frawOne_of_trod hl hx) ⟨_, rfl, rfl⟩ (⟨n, t1⟩ : DataW.Trod enc Tryd.prog W 0 (fun _ => true) true 22 (.slice a len cap) y1.1 y1.2) (fun x hx => hlt x (by simp [hx]))
  injection e1 with f1 f2 f3
  subst f1 f2 f3
  subst e2
  rw [← fraw_cells] at e5
  exact ⟨⟨k, xs⟩, a, cap, rfl, ⟨bounds_i64 b0, maxLen_le (Nat.le_trans e3 e4), e6⟩, e5⟩
end
end Go.Proofs.YtffoklhopmhjaaaDoor

/- For every input ClassBack returns true and leaves its arguments as they were; the condition: before the call the listed variables read as start-up lays them, which is tied to the program's text. -/
set_option linter.unusedSimpArgs false
set_option linter.unusedVariables false
namespace Go.Proofs.YtffoklhopmhjaaaDoor.classBack
open Go Go.ChangeShapes Go.WideShapes Go.ChangeAt Go.RowKit Go.ChangeMaps

set_option maxRecDepth 100000 in
theorem contract (H : Type) (enc : TypeId × Value → H) (W : World) (base : Nat) (args : Array Value) (ds gs : List (DataW H)) (before : List MemPlace)
    (hval : ∀ (j : Nat) t v, Tryd.f4.params[j]? = some t → args[j]? = some v → Value.okWide Tryd.prog W .any base t v)
    (hW : DataW.Whole enc Tryd.prog Tryd.f4.params.toList Rows.classBackSpec.vars false W args.toList ds gs before) (hL : laidMetH Tryd.prog Rows.classBackRow.laid W) :
    Calls Tryd.prog 4 args W fun e W' => ∃ v, e = .returned v ∧ Rows.classBackSpec.post enc Tryd.prog Tryd.f4 false true false false W args v W' := by
  have hW' := hW
  obtain ⟨p, q, hA0, hV, rfl, hfz, hnd⟩ := hW
  have hA : DataW.TrodAll enc Tryd.prog W 0 (fun _ => true) true Tryd.f4.params.toList args.toList ds p := hA0
  rw [Tryd.params4] at hA hval
  obtain ⟨v0, vs0, d0, ds0, p0, q0, hargs, rfl, rfl, h0, r0⟩ := trodAll_cons hA
  obtain ⟨v1, vs1, d1, ds1, p1, q1, rfl, rfl, rfl, h1, r1⟩ := trodAll_cons r0
  obtain ⟨v2, vs2, d2, ds2, p2, q2, rfl, rfl, rfl, h2, r2⟩ := trodAll_cons r1
  obtain ⟨v3, vs3, d3, ds3, p3, q3, rfl, rfl, rfl, h3, r3⟩ := trodAll_cons r2
  obtain ⟨v4, vs4, d4, ds4, p4, q4, rfl, rfl, rfl, h4, r4⟩ := trodAll_cons r3
  obtain ⟨rfl, rfl, rfl⟩ := trodAll_nil r4
  obtain rfl : args = #[v0, v1, v2, v3, v4] := by cases args; simp_all
  obtain ⟨rfl, rfl⟩ := trodVars_none hV
  have hlt : ∀ x ∈ p0 ++ p1 ++ p2 ++ p3 ++ p4, x.block < W.heap.size := fun x hx => by simpa using hW'.lt x (by simpa using hx)
  clear hA0
  rw [MakeChecks.laidMetH_plain _ _ _ (by kernel_rfl)] at hL
  obtain ⟨ea, hE⟩ := errLies_of (hL.tail)
  have hT := tabs_of hL (by simp [Rows.classBackRow]) (by simp [Rows.classBackRow])
  obtain ⟨x0, b0, c0, rfl, hx0, hl0⟩ := openCRaw (hval 0 24 v0 rfl rfl) h0 (fun x hx => hlt x (by simp [hx]))
  obtain ⟨x1, b1, c1, rfl, hx1, hl1⟩ := openCRaw (hval 1 24 v1 rfl rfl) h1 (fun x hx => hlt x (by simp [hx]))
  obtain ⟨a2, rfl, rfl, rfl, w2⟩ := open_string Tryd.underlying9 (hval 2 9 v2 rfl rfl) h2
  obtain ⟨a3, rfl, rfl, rfl, w3⟩ := open_string Tryd.underlying9 (hval 3 9 v3 rfl rfl) h3
  obtain ⟨a4, rfl, rfl, rfl, w4⟩ := open_int Tryd.underlying5 (hval 4 5 v4 rfl rfl) h4
  refine (clsBack_walk x0 hx0 b0 c0 x1 hx1 b1 c1 a2 w2 a3 w3 a4 (bounds_u8 w4).1 (bounds_u8 w4).2 ea W hT hE hl0 hl1).mono fun e W' ⟨he, hb⟩ => ?_
  subst he
  exact ⟨_, rfl, true_post laidOut (by kernel_rfl) (by kernel_rfl) Tryd.underlying4 rfl rfl rfl rfl hW' hb⟩

noncomputable abbrev wit (os : Os) : World := World.laidAll Tryd.prog os Rows.classBackRow.laid
theorem reads (os : Os) {H : Type} (enc : TypeId × Value → H) : ∃ places, DataW.whole enc Tryd.prog ((wit os).forCall (fun _ _ => 0) ⟨#[], #[Value.agg #[.int .i64 0, .slice none 0 0], .agg #[.int .i64 0, .slice none 0 0], .string ⟨#[]⟩, .string ⟨#[]⟩, .int .u8 0], []⟩).memory Tryd.f4.params.toList Rows.classBackSpec.vars false #[Value.agg #[.int .i64 0, .slice none 0 0], .agg #[.int .i64 0, .slice none 0 0], .string ⟨#[]⟩, .string ⟨#[]⟩, .int .u8 0].toList 8 = some ([.agg [.lit (.int .i64 0), .nil], .agg [.lit (.int .i64 0), .nil], .lit (.string []), .lit (.string []), .lit (.int .u8 0)], [], places) :=
  ⟨[], by kernel_rfl⟩

set_option maxRecDepth 100000 in
theorem lifted (os : Os) (started : os.Started) (H : Type) (enc : TypeId × Value → H) (F : Stop.Interp) :
    ReturnsInHanded {} Tryd.checked os 4 .any ((OpenSpec.ofChange Rows.classBackSpec).preRow enc Tryd.prog Tryd.f4 Rows.classBackRow.domain false Rows.classBackRow.laid) (((OpenSpec.ofChange Rows.classBackSpec).at F).post enc Tryd.prog Tryd.f4 false true false false) := by
  obtain ⟨places, hx⟩ := reads os enc
  refine returnsInHanded_of_row (C := Tryd.checked) (s := OpenSpec.ofChange Rows.classBackSpec) own started (by kernel_rfl) Tryd.func4
    (witness_row_atRef (enc := enc) (C := Tryd.checked) false (wit os) #[Value.agg #[.int .i64 0, .slice none 0 0], .agg #[.int .i64 0, .slice none 0 0], .string ⟨#[]⟩, .string ⟨#[]⟩, .int .u8 0] (World.laidAll_os _ _ _) (by kernel_rfl) (by kernel_rfl) (by kernel_rfl)
      (OpenSpec.preRow_of_cond 8 hx (by kernel_rfl) (fun k hk => by cases hk) (by kernel_rfl) (laidMet_laidAll _ (by kernel_rfl) (by kernel_rfl)))) ?_
  intro W base args ds gs before hval hW _ _ _ hL _ _
  exact contract H enc W base args ds gs before hval hW hL

theorem said : Rows.ClassBackSaid :=
  OpenClaim.holds_of_cond 4 Tryd.f4 rfl rfl rfl rfl rfl rfl rfl ⟨rfl, rfl, rfl, rfl, rfl⟩ rfl rfl rfl rfl rfl (by kernel_rfl) Tryd.func4 (by kernel_rfl)
    (of_decide_eq_true (by kernel_rfl)) (by unfold Func.isWrapper; first | (rw [if_pos (by decide +kernel)]; kernel_rfl) | (rw [if_neg (by decide +kernel)]; exact ⟨rfl, rfl⟩))
    (fun os started H enc _ F => by rw [OpenClaim.pre_eq_preRow]; exact lifted os started H enc F)

theorem plain (f : FuncId) (fn : Func) (hf : Tryd.pinned.checked.prog.funcNamed "moraine/morainelaw04.ClassBack" = some f) (hfn : Tryd.pinned.checked.prog.funcs[f]? = some fn) :
    true = Tryd.pinned.checked.prog.looks [] ∧ ∀ (j : Nat) t, fn.params[j]? = some t → Tryd.pinned.checked.prog.wantsStandIn t = false := by
  obtain rfl : f = 4 := Option.some.inj ((show Tryd.prog.funcNamed "moraine/morainelaw04.ClassBack" = some 4 by kernel_rfl).symm.trans hf) |>.symm
  obtain rfl : fn = Tryd.f4 := (Option.some.inj (Tryd.func4.symm.trans hfn)).symm
  refine ⟨by kernel_rfl, fun j t ht => ?_⟩
  have h := Array.mem_of_getElem? ht
  rw [Tryd.params4] at h
  show Tryd.prog.wantsStandIn t = false
  have hall : (#[24, 24, 9, 9, 5] : Array TypeId).all (fun t => Tryd.prog.wantsStandIn t == false) = true := by kernel_rfl
  rw [Array.all_eq_true'] at hall
  exact by simpa using hall t h

/-- the card -/
theorem card : Rows.ClassBackCardSaid :=
  Claim7.holds_tied_plain_at .later [] _ _ _ _ said (fun _ h => by cases h) (by kernel_rfl) (fun _ h => by cases h) classBack_row_tie rfl ⟨rfl, rfl⟩ (by kernel_rfl) rfl plain (by kernel_rfl)
end Go.Proofs.YtffoklhopmhjaaaDoor.classBack

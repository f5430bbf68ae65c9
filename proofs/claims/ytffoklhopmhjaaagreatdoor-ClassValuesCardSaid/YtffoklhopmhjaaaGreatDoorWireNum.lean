/- Num(n): the bytes of n. -/
import Derived.RangeFuncBox
import Derived.RangeFuncBound
import Derived.RangeFuncCalls
import Derived.RangeFuncLeaves
import Derived.Shelf.Abstract
import Derived.Shelf.RegionOpen
import Derived.WalkKit
import Derived.OwnWalkIn
import Derived.TacticsInMore
import Derived.LoopNIn
import Derived.LoopIn
import Derived.Lib.Hide
import Derived.Outline
import Derived.IntWalk
import Derived.Maps.AppendAt
import Derived.Laws.OwnMore
import Derived.Laws.IdiomStrings
import Derived.Test.YtffoklhopmhjaaaGreatDoorWireGroups
set_option linter.unusedSimpArgs false
set_option linter.unusedVariables false
namespace Go.Proofs.YtffoklhopmhjaaaGreatDoor
open Go Go.RowKit Go.Shelf
attribute [local go_sem] Oper.semAt_some

def u8v (b : UInt8) : Value := .int .u8 (b.toNat : Int)
theorem u8v_add (c : UInt8) : Value.int .u8 (((c.toNat : Int) + 128) % 256) = u8v (c + 128) := by
  unfold u8v; rw [UInt8.toNat_add]; congr 1

theorem laid_step (p : List UInt8) (c b : UInt8) : (Wire.laidOf (p ++ [c] ++ [b])).map u8v = ((Wire.laidOf (p ++ [c])).map u8v).set p.length (.int .u8 (((c.toNat : Int) + 128) % 256)) ++ [u8v b] := by
  rw [Wire.laidOf_snoc2, List.map_append, List.map_set, u8v_add]; rfl

theorem infoU8 : (Tryz.prog.info? 5).map (fun i => (i.zero, i.size, i.bytes)) = some (some (.int .u8 0), 1, 1) := by kernel_rfl

set_option maxRecDepth 100000 in
set_option maxHeartbeats 2000000 in
theorem num_in (F : Fence) (n : Nat) (h8 : F.fn 41) (h14 : F.fn 73) (h19 : F.fn 90) (hro : F.round = none) (hn : 3 ≤ n) (x : Int) (hx0 : -9223372036854775808 ≤ x) (hx1 : x ≤ 9223372036854775807) (w : World) :
    CallsIn F n Tryz.prog 41 #[.int .i64 x] w fun e W' => e = .returned (.string ⟨(Wire.num x).toArray⟩) ∧ Below w.heap.size w W' := by
  have h1 : 1 ≤ n := by omega
  obtain ⟨i0, hi, hz0, hz1, hz2⟩ := info_parts infoU8
  refine callsIn_of_wp_marks Tryz.func41 rfl h8 ?_ hro
  simp only [Tryz.ntmps41, List.size_toArray, List.length_cons, List.length_nil, Nat.reduceAdd, Nat.reduceSub, Array.replicate_succ, Array.replicate_zero, List.push_toArray, List.append_toArray, List.nil_append, List.cons_append]
  gi_wp2_with (gi_at_call 73; refine (groups_in F (n - 1) h14 hro _ _).mono ?_; rintro e w' ⟨rfl, rfl⟩)
  have bO := Boxed.new w 64 (.slice none 0 0)
  have bN := Boxed.new (w.alloc (.cells #[.slice none 0 0] 64)) 3 (.int .i64 x)
  rw [World.size_alloc] at bN
  have hB0 : Below w.heap.size w ((w.alloc (.cells #[.slice none 0 0] 64)).alloc (.cells #[.int .i64 x] 3)) := ((Below.refl _ w).alloc (Nat.le_refl _) _).alloc (by simp) _
  refine wpIn_rangeFunc_ownG hro h1 (gf := 90) (lb := #[.pointer (some ⟨w.heap.size + 1, 0, none⟩)]) rfl h19 (enters_of Tryz.func90 (by kernel_rfl) rfl)
    (groups1_stops F (n - 1) h19 hro (by omega) (w.heap.size + 1) w.heap.size x hx0 hx1 _ (by simp) bN.cell) belowK_t (belowK_b (by simp; omega)) (Below.refl _ _) (fun _ => rfl)
    (fun pre W => (∃ v, Boxed W w.heap.size 64 v ∧ W.ownsRow w.heap.size 5 1 v pre.length ((Wire.laidOf pre).map u8v) ∧ (v = .slice none 0 0 ↔ pre = [])) ∧ Below w.heap.size w W)
    (fun _ _ _ => False)
    (OwnFrom.and (Own.from (holdsRow_own w.heap.size w.heap.size 64 5 1 (fun pre => pre.length) (fun pre => (Wire.laidOf pre).map u8v) (fun pre v => v = .slice none 0 0 ↔ pre = [])) _) (ownFrom_below (Nat.le_refl _) (by simp; omega)))
    (fun _ _ _ _ _ hs _ _ => hs)
    ⟨⟨_, bO.alloc _, World.ownsRow_nil _ _ _ _, by simp⟩, hB0⟩
    (fun b => { tmps := #[.int .i64 x, undef, .string ⟨#[]⟩, .pointer (some ⟨w.heap.size, 0, none⟩), u8v b, .int .i64 x, .func (.func 90) #[] #[.pointer (some ⟨w.heap.size + 1, 0, none⟩)], u8v b, undef, undef, undef, undef, undef, undef, undef, undef, undef, undef, undef, undef, undef, undef, undef, undef, undef], defers := [] }) ?assign ?body ?done ?stop
  case assign =>
    intro l b W K hK
    gi_wp2
    exact hK
  case body =>
    rintro l pre b W ⟨⟨v, hv, hrow, hnil⟩, hB⟩ hlt
    have hlen := Wire.groups_length x hx0 hx1
    have hc := hv.cell
    rcases List.eq_nil_or_concat pre with rfl | ⟨p, c, hp⟩
    · have hv0 : v = .slice none 0 0 := hnil.2 rfl
      subst hv0
      unfold u8v
      gi_wp2_with (gi_at_builtin; refine wpListIn_append_own _ rfl _ _ 64 rfl w.heap.size 5 i0 (.int .u8 0) 1 1 Tryz.underlying64 hi hz0 hz1 hz2 rfl (by decide) _ _ _ rfl (hrow.alloc _) ⟨W.heap.size, 0, none⟩ 1 1 [u8v b] rfl rfl (cell_one_new _ _ _) (by simp [Value.oneCell', u8v]) (by simp [maxLen]) (by simp) (by have := hB.size; simp; omega) ?_; intro v' w1 hown' hgrow _; obtain ⟨g', cap', rfl⟩ := ownsRow_succ hown'; obtain ⟨hv1, hv2, hr2, hk2, hb2⟩ := hv.appended (by decide) hrow hB.size (Nat.le_refl _) hown' hgrow; have hc1 := hv1.cell; have hf1 := hv1.frozen)
      exact ⟨hk2.from _, hb2, ⟨_, hv2, by simpa [Wire.laidOf, u8v] using hr2, by simp⟩, hB.trans hb2⟩
    · rw [List.concat_eq_append] at hp
      subst hp
      have hpl : (p ++ [c]).length = p.length + 1 := by simp
      rw [hpl] at hrow
      obtain ⟨g, cap, rfl⟩ := ownsRow_succ hrow
      have hlast : ((Wire.laidOf (p ++ [c])).map u8v)[p.length]? = some (.int .u8 (c.toNat : Int)) := by
        rw [List.getElem?_map, Wire.laidOf_last]; rfl
      have hcell : W.cell? ⟨g, p.length, none⟩ = some (.int .u8 (c.toNat : Int)) := (hrow.cellAt p.length (by omega)).trans hlast
      have hfro : W.frozen? ⟨g, p.length, none⟩ = false := hrow.frozenAt _
      obtain ⟨hst, hsg⟩ := hrow.stored p.length (.int .u8 (((c.toNat : Int) + 128) % 256))
      have hgn : w.heap.size ≤ g := (hrow.lt g rfl).1
      have hne : some w.heap.size ≠ Value.ownBlock (.slice (some ⟨g, 0, none⟩) (p.length + 1) cap) := hv.not_row (by decide) hrow
      have hvs : Boxed (W.setCell ⟨g, p.length, none⟩ (.int .u8 (((c.toNat : Int) + 128) % 256))) w.heap.size 64 (.slice (some ⟨g, 0, none⟩) (p.length + 1) cap) := hv.kept hsg (by simpa [Value.ownBlock] using hne)
      have hcs := hvs.cell
      have hplt : p.length < 10 := by simp at hlt; omega
      have hlr : p.length < (p.length + 1) := by omega
      have hbs : Below w.heap.size W (W.setCell ⟨g, p.length, none⟩ (.int .u8 (((c.toNat : Int) + 128) % 256))) := (Below.refl _ W).setCell (p := ⟨g, p.length, none⟩) hgn _
      have hks : KeepsOthers W (W.setCell ⟨g, p.length, none⟩ (.int .u8 (((c.toNat : Int) + 128) % 256))) := KeepsOthers.setCell _ _ _
      clear hlast hpl
      have hcap : p.length + 1 ≤ cap := by
        rcases hrow.2 with ⟨h', _⟩ | ⟨g', cap', cur, h', _, _, h2, _⟩
        · simp at h'
        · simp at h'; omega
      have hsz : (W.setCell ⟨g, p.length, none⟩ (.int .u8 (((c.toNat : Int) + 128) % 256))).heap.size = W.heap.size := by simp
      have hnews := cell_one_new (W.setCell ⟨g, p.length, none⟩ (.int .u8 (((c.toNat : Int) + 128) % 256))) (u8v b) 5
      rw [hsz] at hnews
      have HN := Lib.hid hnews; clear hnews hsz
      unfold u8v
      gi_wp2_with (gi_at_builtin; refine wpListIn_append_own _ rfl _ _ 64 rfl w.heap.size 5 i0 (.int .u8 0) 1 1 Tryz.underlying64 hi hz0 hz1 hz2 rfl (by decide) _ _ _ rfl (hst.alloc _) ⟨W.heap.size, 0, none⟩ 1 1 [u8v b] rfl rfl HN.out (by simp [Value.oneCell', u8v]) (by simp [maxLen]; omega) (by omega) (by have := hbs.size; have := hB.size; simp; omega) ?_; intro v' w1 hown' hgrow _; obtain ⟨g', cap', rfl⟩ := ownsRow_succ hown'; obtain ⟨hv1, hv2, hr2, hk2, hb2⟩ := hvs.appended (by decide) hst (by have := hbs.size; have := hB.size; omega) (Nat.le_refl _) hown' hgrow; have hc1 := hv1.cell; have hf1 := hv1.frozen)
      refine ⟨(hks.trans hk2).from _, hbs.trans hb2, ⟨_, hv2, ?_, by simp⟩, hB.trans (hbs.trans hb2)⟩
      have e1 : (p ++ [c] ++ [b]).length = p.length + 1 + 1 := by simp
      show World.ownsRow _ _ _ _ _ (p ++ [c] ++ [b]).length ((Wire.laidOf (p ++ [c] ++ [b])).map u8v)
      rw [e1, laid_step]
      exact hr2
  case done =>
    rintro D ys W hD rfl ⟨⟨v, hv, hrow, hnil⟩, hB⟩ hK
    have hc := hv.cell
    have hys : Wire.groups x ≠ [] := Wire.groups_ne x
    obtain ⟨k, hk⟩ : ∃ k, (Wire.groups x).length = k + 1 := ⟨(Wire.groups x).length - 1, by have := List.length_pos_iff.2 hys; omega⟩
    have hrow' := hrow
    rw [hk] at hrow'
    obtain ⟨g, cap, rfl⟩ := ownsRow_succ hrow'
    have hlen : (Wire.num x).length = k + 1 := by rw [Wire.num_length, hk]
    have hconv : (convert 64 9 (.slice (some ⟨g, 0, none⟩) (k + 1) cap)).run Tryz.prog W = .ok (.string ⟨(Wire.num x).toArray⟩) W := by
      have := run_convert_bytes_back (P := Tryz.prog) W 64 9 5 ⟨g, 0, none⟩ cap (Wire.num x) Tryz.underlying64 Tryz.underlying5 Tryz.underlying9 (fun j hj => by
        have hcj := hrow'.cells (g := g) rfl j (u8v (Wire.num x)[j]) (by
          rw [List.getElem?_map]
          have : (Wire.laidOf (Wire.groups x))[j]? = some (Wire.num x)[j] := List.getElem?_eq_getElem hj
          rw [this]; rfl)
        exact hcj)
      rw [hlen] at this
      exact this
    have HK := Lib.hid hk; clear hk
    have HL := Lib.hid hlen; clear hlen
    gi_wp2
    refine ⟨by simp, .inl ⟨_, _, rfl, run_takeDeferred hK, ?_⟩⟩
    exact ⟨_, results_tmp rfl _ _ _, rfl, hB.trans (belowK_b (w := w) (Nat.le_refl _) W D _ _ (by simp at hD; omega) hK rfl rfl)⟩
  case stop =>
    rintro D c pre W _ _ h _
    exact h.elim

/-- Num(n): its bytes; nothing that lay has turned. -/
theorem num_any (x : Int) (hx0 : -9223372036854775808 ≤ x) (hx1 : x ≤ 9223372036854775807) (w : World) :
    Calls Tryz.prog 41 #[.int .i64 x] w fun e W' => e = .returned (.string ⟨(Wire.num x).toArray⟩) ∧ Below w.heap.size w W' :=
  callsIn_wide.1 (num_in Fence.wide 3 trivial trivial trivial rfl (Nat.le_refl _) x hx0 hx1 w)
end Go.Proofs.YtffoklhopmhjaaaGreatDoor

/- Several disks side by side; what is there of all sectors; and 'all' of the disk's law. -/
import Derived.Test.YtnoegbogalfdgaaDiskRead
set_option linter.unusedSimpArgs false
set_option linter.unusedVariables false
namespace Wire
theorem lastOf_nil (k : List UInt8) (a : Nat) : lastOf k [] a = k := rfl
end Wire
namespace Go.Proofs.Ytnoegbogalfdgaa
open Go Go.RowKit Wire

/-- what is there of each sector -/
def DS.now (d : DS) : List (List UInt8) := layW d.kept d.pend
theorem layW_get (k : List (List UInt8)) (ws : List (Nat × List UInt8)) (i : Nat) : (layW k ws)[i]? = k[i]?.map fun s => lastOf s ws i := by
  induction ws generalizing k with
  | nil => simp [layW, lastOf]
  | cons w r ih =>
    have : layW k (w :: r) = layW (k.set w.1 w.2) r := rfl
    rw [this, ih, List.getElem?_set]
    by_cases h : w.1 = i
    · subst h
      by_cases hl : w.1 < k.length
      · rw [if_pos rfl, if_pos hl, List.getElem?_eq_getElem hl]
        simp [lastOf]
      · rw [if_pos rfl, if_neg hl, List.getElem?_eq_none (by omega)]
        rfl
    · rw [if_neg h]
      simp [lastOf, h]
theorem DS.now_length (d : DS) : d.now.length = d.kept.length := layW_length _ _
theorem DS.now_at (d : DS) (i : Nat) (h : i < d.kept.length) : d.now[i]'(by rw [DS.now_length]; exact h) = lastOf d.kept[i] d.pend i := by
  have := layW_get d.kept d.pend i
  rw [List.getElem?_eq_getElem h, List.getElem?_eq_getElem (by rw [layW_length]; exact h)] at this
  exact Option.some.inj this
theorem lastOf_len {k : List UInt8} {ws : List (Nat × List UInt8)} (hk : k.length = 64) (hw : ∀ p ∈ ws, p.2.length = 64) (a : Nat) : (lastOf k ws a).length = 64 := by
  induction ws generalizing k with
  | nil => exact hk
  | cons w r ih =>
    have : lastOf k (w :: r) a = lastOf (if w.1 = a then w.2 else k) r a := rfl
    rw [this]
    refine ih ?_ (fun p hp => hw p (List.mem_cons_of_mem _ hp))
    split
    · exact hw w List.mem_cons_self
    · exact hk
theorem DS.now_64 {d : DS} (h : d.good) : ∀ s ∈ d.now, s.length = 64 := fun s hs => by
  obtain ⟨i, hi, rfl⟩ := List.mem_iff_getElem.1 hs
  rw [DS.now_length] at hi
  rw [DS.now_at d i hi]
  exact lastOf_len (h.k64 _ (List.getElem_mem hi)) (fun p hp => (h.p64 p hp).1) i

theorem DAt.base {B B' r kb : Nat} {W : World} {pv : Value} {d : DS} (h : DAt B W r kb pv d) (hb : B' ≤ B) : DAt B' W r kb pv d :=
  ⟨h.box, h.kept, owned_base h.pend hb, Nat.le_trans hb h.lor, Nat.le_trans hb h.lok, h.good⟩

/-- a disk and where it lies -/
structure Dk where
  r : Nat
  kb : Nat
  pv : Value
  d : DS
def Dks (B : Nat) (W : World) (L : List Dk) : Prop := B ≤ W.heap.size ∧ (∀ x ∈ L, DAt B W x.r x.kb x.pv x.d) ∧ L.Pairwise fun x y => Apart x.r x.kb x.pv y.r y.kb y.pv
section
variable {B r kb : Nat} {W W' : World} {L L1 L2 : List Dk} {pv pv' : Value} {d d' : DS}
theorem Dks.nil (h : B ≤ W.heap.size) : Dks B W [] := ⟨h, by simp, List.Pairwise.nil⟩
theorem Dks.below (h : Dks B W L) (hb : Below W.heap.size W W') : Dks B W' L := ⟨Nat.le_trans h.1 hb.size, fun x hx => (h.2.1 x hx).below hb, h.2.2⟩
theorem Dks.at (h : Dks B W (L1 ++ ⟨r, kb, pv, d⟩ :: L2)) : DAt B W r kb pv d := h.2.1 ⟨r, kb, pv, d⟩ (by simp)
/-- a new disk -/
theorem Dks.new (h : Dks B W L) (hb : Below W.heap.size W W') {r kb : Nat} {pv : Value} {d : DS} (hd : DAt W.heap.size W' r kb pv d) : Dks B W' (L ++ [⟨r, kb, pv, d⟩]) := by
  refine ⟨Nat.le_trans h.1 hb.size, fun x hx => ?_, ?_⟩
  · rcases List.mem_append.1 hx with hx | hx
    · exact (h.2.1 x hx).below hb
    · obtain rfl := List.mem_singleton.1 hx
      exact hd.base h.1
  · refine List.pairwise_append.2 ⟨h.2.2, List.pairwise_singleton _ _, fun x hx y hy => ?_⟩
    obtain rfl := List.mem_singleton.1 hy
    have hx' := h.2.1 x hx
    refine ⟨fun e => ?_, fun e => ?_, fun q hq hq2 => ?_⟩
    · have := hx'.rlt; have := hd.lor; dsimp only at e; omega
    · have := hx'.klt; have := hd.lok; dsimp only at e; omega
    · have := hx'.plt hq
      rcases hd.pend.2 with ⟨hv, _⟩ | ⟨g, cap, cur, hv, hg, _⟩
      · dsimp only at hq2; rw [hv] at hq2; cases hq2
      · dsimp only at hq2; rw [hv] at hq2
        have : g = q := by simpa [Value.ownBlock] using hq2
        omega
/-- a call on one of them -/
theorem Dks.did (h : Dks B W (L1 ++ ⟨r, kb, pv, d⟩ :: L2)) (hd : Did B W W' r kb pv pv' d') : Dks B W' (L1 ++ ⟨r, kb, pv', d'⟩ :: L2) := by
  obtain ⟨hB, h1, h2⟩ := h
  have h0 := h1 ⟨r, kb, pv, d⟩ (by simp)
  obtain ⟨p1, p2, p3⟩ := List.pairwise_append.1 h2
  obtain ⟨p4, p5⟩ := List.pairwise_cons.1 p2
  have hl : ∀ x ∈ L1, DAt B W' x.r x.kb x.pv x.d ∧ Apart r kb pv' x.r x.kb x.pv := fun x hx => hd.other h0 (h1 x (List.mem_append_left _ hx)) (p3 x hx _ List.mem_cons_self).symm
  have hr : ∀ x ∈ L2, DAt B W' x.r x.kb x.pv x.d ∧ Apart r kb pv' x.r x.kb x.pv := fun x hx => hd.other h0 (h1 x (List.mem_append_right _ (List.mem_cons_of_mem _ hx))) (p4 x hx)
  refine ⟨Nat.le_trans hB hd.only.size, fun x hx => ?_, ?_⟩
  · rcases List.mem_append.1 hx with hx | hx
    · exact (hl x hx).1
    · rcases List.mem_cons.1 hx with rfl | hx
      · exact hd.disk
      · exact (hr x hx).1
  · refine List.pairwise_append.2 ⟨p1, List.pairwise_cons.2 ⟨fun y hy => (hr y hy).2, p5⟩, fun x hx y hy => ?_⟩
    rcases List.mem_cons.1 hy with rfl | hy
    · exact (hl x hx).2.symm
    · exact p3 x hx y (List.mem_cons_of_mem _ hy)
end

def DS.text (d : DS) : List UInt8 := d.now.flatten
theorem take_flat (l : List (List UInt8)) (k : Nat) (h : k < l.length) : (l.take (k + 1)).flatten = (l.take k).flatten ++ l[k] := by
  rw [List.take_succ_eq_append_getElem h, List.flatten_append]; simp
theorem flat_len (l : List (List UInt8)) (h : ∀ s ∈ l, s.length = 64) : l.flatten.length = 64 * l.length := by
  induction l with
  | nil => rfl
  | cons a r ih => rw [List.flatten_cons, List.length_append, h a List.mem_cons_self, ih (fun s hs => h s (List.mem_cons_of_mem _ hs)), List.length_cons]; omega

section
variable {B r kb : Nat} {W : World} {pv : Value} {d : DS}
theorem read_now (h : DAt B W r kb pv d) (at' : Nat) (ha : at' < d.kept.length) (hn : d.pend.length ≤ 100000) :
    Calls Try.prog 12 #[.pointer (some ⟨r, 0, none⟩), .int .i64 (at' : Int)] W fun x W' => x = .returned (.tuple #[.string ⟨(d.now[at']'(by rw [DS.now_length]; exact ha)).toArray⟩, .int .i64 0]) ∧ Below W.heap.size W W' := by
  rw [DS.now_at d at' ha]
  exact read_ok h at' ha hn

end
end Go.Proofs.Ytnoegbogalfdgaa

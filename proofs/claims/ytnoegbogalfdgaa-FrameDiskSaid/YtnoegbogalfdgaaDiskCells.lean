/- Sectors laid over a disk's cells. -/
import Derived.Test.YtnoegbogalfdgaaDiskWrite
import Derived.Deep.Upon
set_option linter.unusedSimpArgs false
set_option linter.unusedVariables false
namespace Go.Proofs.Ytnoegbogalfdgaa
open Go Go.RowKit Wire

theorem heap_setCells_same (b : Nat) (t : TypeId) : ∀ (vs : List Value) (o : Nat) (W : World) (cur : Array Value), W.heap[b]? = some (.cells cur t (0, 0)) → o + vs.length ≤ cur.size →
    (W.setCells b o vs).heap[b]? = some (.cells (cur.toList.take o ++ vs ++ cur.toList.drop (o + vs.length)).toArray t (0, 0))
  | [], o, W, cur, h, _ => by
    rw [World.setCells, h]; simp
  | v :: r, o, W, cur, h, hl => by
    rw [World.setCells]
    simp only [List.length_cons] at hl
    rw [heap_setCells_same b t r (o + 1) _ _ (heap_setCell_same W b o cur t v h) (by simp; omega)]
    congr 2
    congr 1
    have ho : o < cur.toList.length := by simp; omega
    rw [Array.toList_setIfInBounds]
    have e1 : (cur.toList.set o v).take (o + 1) = cur.toList.take o ++ [v] := by
      rw [List.take_succ_eq_append_getElem (by simpa using ho), List.getElem_set_self, List.take_set_of_le (Nat.le_refl _)]
    have e2 : (cur.toList.set o v).drop (o + 1 + r.length) = cur.toList.drop (o + 1 + r.length) := by
      rw [List.drop_set_of_lt (by omega)]
    rw [e1, e2, List.length_cons, List.append_assoc, List.append_assoc, List.append_assoc]
    simp [Nat.add_assoc, Nat.add_comm 1]
theorem below_setCells {B b : Nat} {w : World} (hb : B ≤ b) : ∀ (vs : List Value) (o : Nat) (W : World), Below B w W → Below B w (W.setCells b o vs)
  | [], o, W, h => h
  | v :: r, o, W, h => by
    rw [World.setCells]
    exact below_setCells hb r (o + 1) _ (h.setCell (p := ⟨b, o, none⟩) hb v)
theorem blocks_setCells (b : Nat) : ∀ (vs : List Value) (o : Nat) (W : World) (k : Nat), k ≠ b → (W.setCells b o vs).heap[k]? = W.heap[k]?
  | [], _, _, _, _ => rfl
  | v :: r, o, W, k, h => by
    rw [World.setCells, blocks_setCells b r (o + 1) _ k h]
    exact Below.heap_setCell W ⟨b, o, none⟩ v k h
theorem size_setCells (b : Nat) : ∀ (vs : List Value) (o : Nat) (W : World), (W.setCells b o vs).heap.size = W.heap.size
  | [], _, _ => rfl
  | v :: r, o, W => by rw [World.setCells, size_setCells b r]; simp [World.setCell]

theorem kcells_length : ∀ (l : List (List UInt8)), (∀ s ∈ l, s.length = 64) → (kcells l).length = 64 * l.length
  | [], _ => rfl
  | s :: r, h => by
    have := kcells_length r (fun x hx => h x (List.mem_cons_of_mem _ hx))
    simp only [kcells, List.flatMap_cons, List.length_append, List.length_map, h s List.mem_cons_self, List.length_cons] at this ⊢
    omega
theorem kcells_set : ∀ (l : List (List UInt8)) (i : Nat) (s : List UInt8), (∀ x ∈ l, x.length = 64) → i < l.length → s.length = 64 → (kcells l).take (i * 64) ++ s.map u8c ++ (kcells l).drop (i * 64 + 64) = kcells (l.set i s)
  | x :: r, 0, s, h, _, hs => by
    have hx : (x.map u8c).length = 64 := by rw [List.length_map]; exact h x List.mem_cons_self
    simp only [kcells, List.flatMap_cons, List.set_cons_zero, Nat.zero_mul, List.take_zero, List.nil_append, Nat.zero_add]
    rw [List.drop_left' hx]
  | x :: r, i + 1, s, h, hi, hs => by
    have hx : (x.map u8c).length = 64 := by rw [List.length_map]; exact h x List.mem_cons_self
    have ih := kcells_set r i s (fun y hy => h y (List.mem_cons_of_mem _ hy)) (by simpa using hi) hs
    simp only [kcells, List.flatMap_cons, List.set_cons_succ] at ih ⊢
    rw [List.take_append, List.take_of_length_le (by rw [hx]; omega), List.drop_append, List.drop_eq_nil_of_le (by rw [hx]; omega), hx, List.nil_append, ← ih]
    rw [show (i + 1) * 64 - 64 = i * 64 from by omega, show (i + 1) * 64 + 64 - 64 = i * 64 + 64 from by omega]
    simp only [List.append_assoc]
theorem kcells_at : ∀ (l : List (List UInt8)) (i : Nat) (h : i < l.length), (∀ x ∈ l, x.length = 64) → ∀ (j : Nat) (v : Value), (l[i].map u8c)[j]? = some v → (kcells l)[i * 64 + j]? = some v
  | x :: r, 0, _, h, j, v, hv => by
    have hj : j < (x.map u8c).length := (List.getElem?_eq_some_iff.1 hv).1
    simp only [kcells, List.flatMap_cons]
    rw [Nat.zero_mul, Nat.zero_add, List.getElem?_append_left hj]
    exact hv
  | x :: r, i + 1, hi, h, j, v, hv => by
    have hx : (x.map u8c).length = 64 := by rw [List.length_map]; exact h x List.mem_cons_self
    simp only [kcells, List.flatMap_cons]
    rw [List.getElem?_append_right (by rw [hx]; omega), hx, show (i + 1) * 64 + j - 64 = i * 64 + j from by omega]
    exact kcells_at r i (by simpa using hi) (fun y hy => h y (List.mem_cons_of_mem _ hy)) j v hv
theorem pcells_at : ∀ (l : List (Nat × List UInt8)) (i : Nat) (h : i < l.length), (∀ p ∈ l, p.2.length = 64) → ∀ (j : Nat) (v : Value), (wcells l[i])[j]? = some v → (pcells l)[i * 65 + j]? = some v
  | x :: r, 0, _, h, j, v, hv => by
    have hj : j < (wcells x).length := (List.getElem?_eq_some_iff.1 hv).1
    simp only [pcells, List.flatMap_cons]
    rw [Nat.zero_mul, Nat.zero_add, List.getElem?_append_left hj]
    exact hv
  | x :: r, i + 1, hi, h, j, v, hv => by
    have hx : (wcells x).length = 65 := by simp [wcells, h x List.mem_cons_self]
    simp only [pcells, List.flatMap_cons]
    rw [List.getElem?_append_right (by rw [hx]; omega), hx, show (i + 1) * 65 + j - 65 = i * 65 + j from by omega]
    exact pcells_at r i (by simpa using hi) (fun y hy => h y (List.mem_cons_of_mem _ hy)) j v hv

/-- writes laid over sectors -/
def layW (k : List (List UInt8)) (ws : List (Nat × List UInt8)) : List (List UInt8) := ws.foldl (fun k w => k.set w.1 w.2) k
theorem layW_length (k : List (List UInt8)) (ws : List (Nat × List UInt8)) : (layW k ws).length = k.length := by
  unfold layW
  induction ws generalizing k with
  | nil => rfl
  | cons w r ih => rw [List.foldl_cons, ih, List.length_set]
theorem layW_snoc (k : List (List UInt8)) (ws : List (Nat × List UInt8)) (w : Nat × List UInt8) : layW k (ws ++ [w]) = (layW k ws).set w.1 w.2 := by simp [layW]
theorem layW_64 {k : List (List UInt8)} {ws : List (Nat × List UInt8)} (h : ∀ s ∈ k, s.length = 64) (hw : ∀ w ∈ ws, w.2.length = 64) : ∀ s ∈ layW k ws, s.length = 64 := by
  unfold layW
  induction ws generalizing k with
  | nil => exact h
  | cons w r ih =>
    rw [List.foldl_cons]
    refine ih (fun s hs => ?_) (fun x hx => hw x (List.mem_cons_of_mem _ hx))
    rcases List.mem_or_eq_of_mem_set hs with h1 | h1
    · exact h s h1
    · rw [h1]; exact hw w List.mem_cons_self

/-- a sector laid into a disk -/
theorem DAt.setSector {B r kb : Nat} {W : World} {pv : Value} {d : DS} (h : DAt B W r kb pv d) (i : Nat) (hi : i < d.kept.length) (s : List UInt8) (hs : s.length = 64) :
    DAt B (W.setCells kb (i * 64) (s.map u8c)) r kb pv ⟨d.kept.set i s, d.pend, d.cut, d.left⟩ := by
  have hk := heap_setCells_same kb 63 (s.map u8c) (i * 64) W _ h.kept (by
    have := kcells_length d.kept h.good.k64
    simp [hs, this]; omega)
  rw [List.length_map, hs, kcells_set d.kept i s h.good.k64 hi hs] at hk
  refine ⟨?_, hk, ⟨h.pend.1, ?_⟩, h.lor, h.lok, ⟨fun x hx => ?_, fun p hp => ?_, ?_, h.good.left⟩⟩
  · rw [blocks_setCells kb _ _ W r h.rk]; simpa using h.box
  · rcases h.pend.2 with h0 | ⟨g, cap, cur, hv, hb', hg', hr⟩
    · exact .inl h0
    · refine .inr ⟨g, cap, cur, hv, hb', ?_, hr⟩
      rw [blocks_setCells kb _ _ W g (fun e => h.pk (by rw [hv, e]; rfl))]; exact hg'
  · rcases List.mem_or_eq_of_mem_set hx with h1 | h1
    · exact h.good.k64 x h1
    · rw [h1]; exact hs
  · have := h.good.p64 p hp
    exact ⟨this.1, by simpa using this.2⟩
  · simpa using h.good.few
theorem only_sector {r kb : Nat} (W : World) (pv : Value) (o : Nat) (vs : List Value) : Only W (W.setCells kb o vs) r kb pv :=
  ⟨by rw [size_setCells]; exact Nat.le_refl _, fun k _ _ h2 _ => blocks_setCells kb vs o W k h2⟩
end Go.Proofs.Ytnoegbogalfdgaa

/- morainelaw03.ValFit. -/
import Derived.Test.YtmijlcilnaeppaaGreatDoorFitRawZ
import Derived.Test.YtmijlcilnaeppaaGreatDoorBun15
set_option linter.unusedSimpArgs false
set_option linter.unusedVariables false
namespace Go.Proofs.YtmijlcilnaeppaaGreatDoor
open Go Go.RowKit Go.Shelf

theorem fitV_flat (k : Int) (x : RawOne) (h : k ≠ 5) : (fitV k x).flatOk = true := by
  unfold fitV
  rw [if_neg h]
  split
  · rename_i h34
    split
    · rfl
    · have hb := pickI_bd x.n 500 (by decide)
      show flatOk k (1 + pickI x.n 500) ⟨#[]⟩ 0 = true
      unfold flatOk
      rw [if_neg (by omega), if_neg (by omega), if_neg (by omega), if_pos h34]
      exact decide_eq_true ⟨.inl (by omega), rfl, rfl⟩
  · exact (valOne_ok k x).1
theorem fitV_kind (k : Int) (x : RawOne) (h1 : 1 ≤ k) (h2 : k ≤ 4) : fkB (fitV k x).k k = true := by
  unfold fitV fkB
  rw [if_neg (by omega)]
  split
  · rename_i h34
    split
    · exact decide_eq_true (.inr ⟨rfl, h34⟩)
    · exact decide_eq_true (.inl rfl)
  · rename_i h34
    unfold valOne
    split
    · rename_i h; exact decide_eq_true (.inl h.symm)
    · split
      · rename_i h; exact decide_eq_true (.inl h.symm)
      · omega
/-- a value that is made to fit -/
def fitVal (tk tO : Int) (x : Raw) : V := if tk = 5 then .mk 5 0 ⟨#[]⟩ ((x.l.take 12).map (fitV tO)) else fitV tk ⟨x.k, x.n, x.s⟩
def fitTo (tO : Int) (x : Raw) (i : Nat) : List V := (x.l.take i).map (fitV tO)
theorem fitTo_len (tO : Int) (x : Raw) (i : Nat) (h : i ≤ x.l.length) : (fitTo tO x i).length = i := by unfold fitTo; rw [List.length_map, List.length_take]; omega
theorem fitTo_flat (tO : Int) (hto : tO ≠ 5) (x : Raw) (n i : Nat) (h : i < (fitTo tO x n).length) : ((fitTo tO x n)[i]).flatOk = true := by
  obtain ⟨r, _, e⟩ := List.mem_map.1 (show (fitTo tO x n)[i] ∈ (x.l.take n).map (fitV tO) from List.getElem_mem h)
  rw [← e]
  exact fitV_flat tO r hto
theorem fitTo_succ (tO : Int) (x : Raw) (i : Nat) (h : i < x.l.length) : fitTo tO x (i + 1) = fitTo tO x i ++ [fitV tO x.l[i]] := by
  unfold fitTo
  rw [List.take_succ_eq_append_getElem h, List.map_append]; rfl
theorem fitTo_end (tO : Int) (x : Raw) (i : Nat) (hi : i ≤ x.l.length) (h12 : i ≤ 12) (hend : ¬ (i < x.l.length ∧ i < 12)) : fitVal 5 tO x = .mk 5 0 ⟨#[]⟩ (fitTo tO x i) := by
  unfold fitVal fitTo
  rw [if_pos rfl]
  congr 2
  rcases Nat.lt_or_ge i 12 with h | h
  · rw [List.take_of_length_le (by omega), List.take_of_length_le (by omega)]
  · rw [show i = 12 from by omega]
theorem fitVal_ok (tk tO : Int) (x : Raw) (h : tk ≠ 5 ∨ tO ≠ 5) : (fitVal tk tO x).ok = true := by
  unfold fitVal
  split
  · rename_i h5
    refine ok_of_items (by rw [List.length_map, List.length_take]; omega) (fun u hu => ?_)
    obtain ⟨r, _, rfl⟩ := List.mem_map.1 hu
    exact fitV_flat tO r (by rcases h with h | h; exact absurd h5 h; exact h)
  · rename_i h5
    have hf := fitV_flat tk ⟨x.k, x.n, x.s⟩ h5
    have hk : (fitV tk ⟨x.k, x.n, x.s⟩).k ≠ 5 := by have := (flatOk_parts hf).1; omega
    unfold V.ok
    rw [if_neg hk]
    exact hf
theorem fitVal_fits (tk tO : Int) (x : Raw) (h : rtB tk tO = true) : fitsB (fitVal tk tO x) tk tO = true := by
  have ht : (tk = 5 ∧ 1 ≤ tO ∧ tO ≤ 4) ∨ (tk ≠ 5 ∧ 1 ≤ tk ∧ tk ≤ 4) := by
    unfold rtB at h
    split at h
    · have := of_decide_eq_true h; omega
    · have := of_decide_eq_true h; omega
  have hok := fitVal_ok tk tO x (by omega)
  unfold fitsB
  rw [h, hok, Bool.true_and, Bool.true_and]
  rcases ht with ⟨rfl, h1, h2⟩ | ⟨h5, h1, h2⟩
  · rw [if_pos rfl]
    unfold fitVal
    rw [if_pos rfl, Bool.and_eq_true]
    refine ⟨?_, rfl⟩
    rw [List.all_eq_true]
    intro u hu
    obtain ⟨r, _, rfl⟩ := List.mem_map.1 hu
    exact fitV_kind tO r h1 h2
  · rw [if_neg h5]
    unfold fitVal
    rw [if_neg h5]
    exact fitV_kind tk _ h1 h2

def fitPost (tk tO : Int) (x : Raw) (w : World) (e : Ending) (w' : World) : Prop := ∃ y : It, e = .returned y.v ∧ VAt 1 w' (fitVal tk tO x) y ∧ Below w.heap.size w w'

/-- the boxes of a value that is made to fit -/
def FtB (w : World) (tk tO : Int) (x : Raw) (p : Option Addr) (c : Nat) (vb : Nat) (us : List V) (v : Value) (W : World) : Prop :=
  TBox W w.heap.size tk tO ∧ Bx W (w.heap.size + 1) 24 #[.int .i64 x.k, .int .i64 x.n, .string x.s, .slice p x.l.length c] ∧ VBox W (w.heap.size + 2) 0 0 ⟨#[]⟩ (.slice none 0 0) ∧ VBox W vb 5 0 ⟨#[]⟩ v ∧ w.heap.size + 3 ≤ vb ∧ W.ownsRow (vb + 1) 30 4 v us.length (itsCells (us.map itOf)) ∧ Below w.heap.size w W
theorem FtB.below {w : World} {tk tO : Int} {x : Raw} {p : Option Addr} {c vb : Nat} {us : List V} {v : Value} {W W' : World} (h : FtB w tk tO x p c vb us v W) (hb : Below W.heap.size W W') : FtB w tk tO x p c vb us v W' :=
  ⟨h.1.below hb, h.2.1.below hb, h.2.2.1.below hb, h.2.2.2.1.below hb, h.2.2.2.2.1, owned_below h.2.2.2.2.2.1 hb, h.2.2.2.2.2.2.trans (hb.mono h.2.2.2.2.2.2.size)⟩
theorem FtB.next {w : World} {tk tO : Int} {x : Raw} {p : Option Addr} {c vb : Nat} {us : List V} {v v' : Value} {W W' : World} {u : V} (h : FtB w tk tO x p c vb us v W) (hg : W.grownBy W' v.ownBlock)
    (hown : W'.ownsRow (vb + 1) 30 4 v' (us.length + 1) (itsCells (us.map itOf) ++ [.int .i64 u.k, .int .i64 u.n, .string u.s, .slice none 0 0])) : FtB w tk tO x p c vb (us ++ [u]) v' (W'.setCell ⟨vb, 3, none⟩ v') := by
  obtain ⟨h0, h1, h2, h3, hv, h4, h5⟩ := h
  have hgo : ∀ g, v.ownBlock = some g → vb + 1 ≤ g := fun g hg' => (h4.lt g hg').1
  have k0 : TBox W' w.heap.size tk tO := Bx.grown (T := 26) h0 hg (fun e => by have := hgo _ e.symm; omega)
  have k1 : Bx W' (w.heap.size + 1) _ _ := h1.grown hg (fun e => by have := hgo _ e.symm; omega)
  have k2 : VBox W' (w.heap.size + 2) 0 0 ⟨#[]⟩ (.slice none 0 0) := Bx.grown (T := 30) h2 hg (fun e => by have := hgo _ e.symm; omega)
  have k3 : VBox W' vb 5 0 ⟨#[]⟩ v := Bx.grown (T := 30) h3 hg (fun e => by have := hgo _ e.symm; omega)
  have k5 : Below w.heap.size w W' := h5.grown hg h5.size (fun g hg' => by have := hgo g hg'; omega)
  refine ⟨k0.past _ (by show w.heap.size ≠ vb; omega) _, k1.past _ (by show w.heap.size + 1 ≠ vb; omega) _, k2.past _ (by show w.heap.size + 2 ≠ vb; omega) _, k3.set3 v', hv, ?_, k5.setCell (p := ⟨vb, 3, none⟩) (by show w.heap.size ≤ vb; omega) _⟩
  have e : itsCells ((us ++ [u]).map itOf) = itsCells (us.map itOf) ++ [.int .i64 u.k, .int .i64 u.n, .string u.s, .slice none 0 0] := by
    rw [List.map_append, itsCells_append]; rfl
  rw [e, List.length_append, List.length_singleton]
  refine hown.kept (row := some vb) ⟨rfl, rfl, rfl, by simp, fun k hk hne => Below.heap_setCell W' ⟨vb, 3, none⟩ v' k (fun e => hne (by rw [e]))⟩ ?_
  rcases hown.2 with ⟨rfl, _⟩ | ⟨g, cap, cur, rfl, hg, _⟩
  · exact .inl rfl
  · exact .inr (fun e => by have e2 : g = vb := Option.some.inj e; omega)

end Go.Proofs.YtmijlcilnaeppaaGreatDoor

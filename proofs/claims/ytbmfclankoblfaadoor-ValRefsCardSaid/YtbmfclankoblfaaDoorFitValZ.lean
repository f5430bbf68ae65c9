/- morainelaw03.ValFit. -/
import Derived.Test.YtbmfclankoblfaaDoorFitRawZ
import Derived.Test.YtbmfclankoblfaaDoorBun15
set_option linter.unusedSimpArgs false
set_option linter.unusedVariables false
namespace Go.Proofs.YtbmfclankoblfaaDoor
open Go Go.RowKit Go.Shelf

theorem fitV_flat (k : Int) (x : RawOne) (h : k ≠ 5) : (fitV k x).flatOk = true := by
  unfold fitV
  rw [if_neg h]
  split
  · rename_i h34
    split
    · rfl
    · have hb := pickI_bd x.n 500 (by decide)
      show flatOk k (1 + pickI x.n 500) ⟨#[]⟩ 0 = true
      unfold flatOk
      rw [if_neg (by omega), if_neg (by omega), if_neg (by omega), if_pos h34]
      exact decide_eq_true ⟨.inl (by omega), rfl, rfl⟩
  · exact (valOne_ok k x).1
theorem fitV_kind (k : Int) (x : RawOne) (h1 : 1 ≤ k) (h2 : k ≤ 4) : fkB (fitV k x).k k = true := by
  unfold fitV fkB
  rw [if_neg (by omega)]
  split
  · rename_i h34
    split
    · exact decide_eq_true (.inr ⟨rfl, h34⟩)
    · exact decide_eq_true (.inl rfl)
  · rename_i h34
    unfold valOne
    split
    · rename_i h; exact decide_eq_true (.inl h.symm)
    · split
      · rename_i h; exact decide_eq_true (.inl h.symm)
      · omega
/-- a value that is made to fit -/
def fitVal (tk tO : Int) (x : Raw) : V := if tk = 5 then .mk 5 0 ⟨#[]⟩ ((x.l.take 12).map (fitV tO)) else fitV tk ⟨x.k, x.n, x.s⟩
def fitTo (tO : Int) (x : Raw) (i : Nat) : List V := (x.l.take i).map (fitV tO)
theorem fitTo_len (tO : Int) (x : Raw) (i : Nat) (h : i ≤ x.l.length) : (fitTo tO x i).length = i := by unfold fitTo; rw [List.length_map, List.length_take]; omega
theorem fitTo_flat (tO : Int) (hto : tO ≠ 5) (x : Raw) (n i : Nat) (h : i < (fitTo tO x n).length) : ((fitTo tO x n)[i]).flatOk = true := by
  obtain ⟨r, _, e⟩ := List.mem_map.1 (show (fitTo tO x n)[i] ∈ (x.l.take n).map (fitV tO) from List.getElem_mem h)
  rw [← e]
  exact fitV_flat tO r hto
theorem fitTo_succ (tO : Int) (x : Raw) (i : Nat) (h : i < x.l.length) : fitTo tO x (i + 1) = fitTo tO x i ++ [fitV tO x.l[i]] := by
  unfold fitTo
  rw [List.take_succ_eq_append_getElem h, List.map_append]; rfl
theorem fitTo_end (tO : Int) (x : Raw) (i : Nat) (hi : i ≤ x.l.length) (h12 : i ≤ 12) (hend : ¬ (i < x.l.length ∧ i < 12)) : fitVal 5 tO x = .mk 5 0 ⟨#[]⟩ (fitTo tO x i) := by
  unfold fitVal fitTo
  rw [if_pos rfl]
  congr 2
  rcases Nat.lt_or_ge i 12 with h | h
  · rw [List.take_of_length_le (by omega), List.take_of_length_le (by omega)]
  · rw [show i = 12 from by omega]
theorem fitVal_ok (tk tO : Int) (x : Raw) (h : tk ≠ 5 ∨ tO ≠ 5) : (fitVal tk tO x).ok = true := by
  unfold fitVal
  split
  · rename_i h5
    refine ok_of_items (by rw [List.length_map, List.length_take]; omega) (fun u hu => ?_)
    obtain ⟨r, _, rfl⟩ := List.mem_map.1 hu
    exact fitV_flat tO r (by rcases h with h | h; exact absurd h5 h; exact h)
  · rename_i h5
    have hf := fitV_flat tk ⟨x.k, x.n, x.s⟩ h5
    have hk : (fitV tk ⟨x.k, x.n, x.s⟩).k ≠ 5 := by have := (flatOk_parts hf).1; omega
    unfold V.ok
    rw [if_neg hk]
    exact hf
theorem fitVal_fits (tk tO : Int) (x : Raw) (h : rtB tk tO = true) : fitsB (fitVal tk tO x) tk tO = true := by
  have ht : (tk = 5 ∧ 1 ≤ tO ∧ tO ≤ 4) ∨ (tk ≠ 5 ∧ 1 ≤ tk ∧ tk ≤ 4) := by
    unfold rtB at h
    split at h
    · have := of_decide_eq_true h; omega
    · have := of_decide_eq_true h; omega
  have hok := fitVal_ok tk tO x (by omega)
  unfold fitsB
  rw [h, hok, Bool.true_and, Bool.true_and]
  rcases ht with ⟨rfl, h1, h2⟩ | ⟨h5, h1, h2⟩
  · rw [if_pos rfl]
    unfold fitVal
    rw [if_pos rfl, Bool.and_eq_true]
    refine ⟨?_, rfl⟩
    rw [List.all_eq_true]
    intro u hu
    obtain ⟨r, _, rfl⟩ := List.mem_map.1 hu
    exact fitV_kind tO r h1 h2
  · rw [if_neg h5]
    unfold fitVal
    rw [if_neg h5]
    exact fitV_kind tk _ h1 h2

def fitPost (tk tO : Int) (x : Raw) (w : World) (e : Ending) (w' : World) : Prop := ∃ y : It, e = .returned y.v ∧ VAt 1 w' (fitVal tk tO x) y ∧ Below w.heap.size w w'

/-- the boxes of a value that is made to fit -/
def FtB (w : World) (tk tO : Int) (x : Raw) (p : Option Addr) (c : Nat) (vb : Nat) (us : List V) (v : Value) (W : World) : Prop :=
  TBox W w.heap.size tk tO ∧ Bx W (w.heap.size + 1) 24 #[.int .i64 x.k, .int .i64 x.n, .string x.s, .slice p x.l.length c] ∧ VBox W (w.heap.size + 2) 0 0 ⟨#[]⟩ (.slice none 0 0) ∧ VBox W vb 5 0 ⟨#[]⟩ v ∧ w.heap.size + 3 ≤ vb ∧ W.ownsRow (vb + 1) 28 4 v us.length (itsCells (us.map itOf)) ∧ Below w.heap.size w W
theorem FtB.below {w : World} {tk tO : Int} {x : Raw} {p : Option Addr} {c vb : Nat} {us : List V} {v : Value} {W W' : World} (h : FtB w tk tO x p c vb us v W) (hb : Below W.heap.size W W') : FtB w tk tO x p c vb us v W' :=
  ⟨h.1.below hb, h.2.1.below hb, h.2.2.1.below hb, h.2.2.2.1.below hb, h.2.2.2.2.1, owned_below h.2.2.2.2.2.1 hb, h.2.2.2.2.2.2.trans (hb.mono h.2.2.2.2.2.2.size)⟩
theorem FtB.next {w : World} {tk tO : Int} {x : Raw} {p : Option Addr} {c vb : Nat} {us : List V} {v v' : Value} {W W' : World} {u : V} (h : FtB w tk tO x p c vb us v W) (hg : W.grownBy W' v.ownBlock)
    (hown : W'.ownsRow (vb + 1) 28 4 v' (us.length + 1) (itsCells (us.map itOf) ++ [.int .i64 u.k, .int .i64 u.n, .string u.s, .slice none 0 0])) : FtB w tk tO x p c vb (us ++ [u]) v' (W'.setCell ⟨vb, 3, none⟩ v') := by
  obtain ⟨h0, h1, h2, h3, hv, h4, h5⟩ := h
  have hgo : ∀ g, v.ownBlock = some g → vb + 1 ≤ g := fun g hg' => (h4.lt g hg').1
  have k0 : TBox W' w.heap.size tk tO := Bx.grown (T := 41) h0 hg (fun e => by have := hgo _ e.symm; omega)
  have k1 : Bx W' (w.heap.size + 1) _ _ := h1.grown hg (fun e => by have := hgo _ e.symm; omega)
  have k2 : VBox W' (w.heap.size + 2) 0 0 ⟨#[]⟩ (.slice none 0 0) := Bx.grown (T := 28) h2 hg (fun e => by have := hgo _ e.symm; omega)
  have k3 : VBox W' vb 5 0 ⟨#[]⟩ v := Bx.grown (T := 28) h3 hg (fun e => by have := hgo _ e.symm; omega)
  have k5 : Below w.heap.size w W' := h5.grown hg h5.size (fun g hg' => by have := hgo g hg'; omega)
  refine ⟨k0.past _ (by show w.heap.size ≠ vb; omega) _, k1.past _ (by show w.heap.size + 1 ≠ vb; omega) _, k2.past _ (by show w.heap.size + 2 ≠ vb; omega) _, k3.set3 v', hv, ?_, k5.setCell (p := ⟨vb, 3, none⟩) (by show w.heap.size ≤ vb; omega) _⟩
  have e : itsCells ((us ++ [u]).map itOf) = itsCells (us.map itOf) ++ [.int .i64 u.k, .int .i64 u.n, .string u.s, .slice none 0 0] := by
    rw [List.map_append, itsCells_append]; rfl
  rw [e, List.length_append, List.length_singleton]
  refine hown.kept (row := some vb) ⟨rfl, rfl, rfl, by simp, fun k hk hne => Below.heap_setCell W' ⟨vb, 3, none⟩ v' k (fun e => hne (by rw [e]))⟩ ?_
  rcases hown.2 with ⟨rfl, _⟩ | ⟨g, cap, cur, rfl, hg, _⟩
  · exact .inl rfl
  · exact .inr (fun e => by have e2 : g = vb := Option.some.inj e; omega)

set_option maxHeartbeats 2000000 in
set_option maxRecDepth 100000 in
theorem valFit_list (tO : Int) (hto : tO ≠ 5) (x : Raw) (hx : x.fine) (p : Option Addr) (c : Nat) (w : World) (hL : Lies w (.slice p x.l.length c) x.l.length 3 (rawsCells x.l)) :
    Calls Tryd.prog 21 #[.agg #[.int .i64 5, .int .i64 tO], .agg #[.int .i64 x.k, .int .i64 x.n, .string x.s, .slice p x.l.length c], .int .i64 500] w (fitPost 5 tO x w) := by
  obtain ⟨i0, hi, hz0, hz1, hz2⟩ := info_parts infoVal
  have hfirst := fun w => fit_any 5 ⟨x.k, x.n, x.s⟩ ⟨hx.k, hx.n, hx.s⟩ w
  rw [show itOf (fitV 5 ⟨x.k, x.n, x.s⟩) = ⟨5, 0, ⟨#[]⟩, none, 0, 0⟩ from rfl] at hfirst
  have hone : ∀ (i : Nat) (h : i < x.l.length) (w : World), Calls Tryd.prog 45 #[.int .i64 tO, .agg #[.int .i64 x.l[i].k, .int .i64 x.l[i].n, .string x.l[i].s], .int .i64 500] w fun e w' => e = .returned (itOf (fitV tO x.l[i])).v ∧ Below w.heap.size w w' := fun i h w =>
    fit_any tO x.l[i] (hx.each _ (List.getElem_mem h)) w
  have hlen := hx.l
  have hvof := fun i => fitTo_end tO x i
  have hb0 : Below w.heap.size w (((w.alloc (.cells #[.int .i64 5, .int .i64 tO] 41)).alloc (.cells #[.int .i64 x.k, .int .i64 x.n, .string x.s, .slice p x.l.length c] 24)).alloc (.cells #[.int .i64 0, .int .i64 0, .string ⟨#[]⟩, .slice none 0 0] 28)) := (below_two _ _).alloc (by simp; omega) _
  have hw0 : ∀ W1, Below (((w.alloc (.cells #[.int .i64 5, .int .i64 tO] 41)).alloc (.cells #[.int .i64 x.k, .int .i64 x.n, .string x.s, .slice p x.l.length c] 24)).alloc (.cells #[.int .i64 0, .int .i64 0, .string ⟨#[]⟩, .slice none 0 0] 28)).heap.size (((w.alloc (.cells #[.int .i64 5, .int .i64 tO] 41)).alloc (.cells #[.int .i64 x.k, .int .i64 x.n, .string x.s, .slice p x.l.length c] 24)).alloc (.cells #[.int .i64 0, .int .i64 0, .string ⟨#[]⟩, .slice none 0 0] 28)) W1 → FtB w 5 tO x p c W1.heap.size (fitTo tO x 0) (.slice none 0 0) (W1.alloc (.cells #[.int .i64 5, .int .i64 0, .string ⟨#[]⟩, .slice none 0 0] 28)) := fun W1 hB => by
    have k0 := (((TBox.new w 5 tO).alloc (.cells #[.int .i64 x.k, .int .i64 x.n, .string x.s, .slice p x.l.length c] 24)).alloc (.cells #[.int .i64 0, .int .i64 0, .string ⟨#[]⟩, .slice none 0 0] 28)).below hB
    have k1 := ((Bx.new (w.alloc (.cells #[.int .i64 5, .int .i64 tO] 41)) 24 #[.int .i64 x.k, .int .i64 x.n, .string x.s, .slice p x.l.length c]).alloc (.cells #[.int .i64 0, .int .i64 0, .string ⟨#[]⟩, .slice none 0 0] 28)).below hB
    have k2 := (VBox.new ((w.alloc (.cells #[.int .i64 5, .int .i64 tO] 41)).alloc (.cells #[.int .i64 x.k, .int .i64 x.n, .string x.s, .slice p x.l.length c] 24)) 0 0 ⟨#[]⟩ (.slice none 0 0)).below hB
    rw [World.size_alloc] at k1
    rw [World.size_alloc, World.size_alloc] at k2
    have hz := hB.size
    rw [World.size_alloc, World.size_alloc, World.size_alloc] at hz
    exact ⟨k0.alloc _, k1.alloc _, k2.alloc _, VBox.new _ _ _ _ _, by omega, World.ownsRow_nil _ _ _ _, (hb0.trans (hB.mono (by simp; omega))).alloc (by omega) _⟩
  have hts : TBox (((w.alloc (.cells #[.int .i64 5, .int .i64 tO] 41)).alloc (.cells #[.int .i64 x.k, .int .i64 x.n, .string x.s, .slice p x.l.length c] 24)).alloc (.cells #[.int .i64 0, .int .i64 0, .string ⟨#[]⟩, .slice none 0 0] 28)) w.heap.size 5 tO := ((TBox.new w 5 tO).alloc (.cells #[.int .i64 x.k, .int .i64 x.n, .string x.s, .slice p x.l.length c] 24)).alloc (.cells #[.int .i64 0, .int .i64 0, .string ⟨#[]⟩, .slice none 0 0] 28)
  clear hx
  have HF := Lib.hid hfirst
  have HONE := Lib.hid hone
  have HVOF := Lib.hid hvof
  have HL := Lib.hid hL
  have HW0 := Lib.hid hw0
  clear hfirst hone hvof hL hw0 hb0 hts
  go_enter Tryd.func21, Tryd.ntmps21
  go_wp2_with fail
  refine (HF.out _).mono ?_
  rintro e W1 ⟨rfl, hB1⟩
  have hw1 := HW0.out W1 hB1
  have HW1 := Lib.hid hw1
  clear hw1 hB1 HW0
  go_wp2_with fail
  generalize W1.alloc (.cells #[.int .i64 5, .int .i64 0, .string ⟨#[]⟩, .slice none 0 0] 28) = W2 at HW1 ⊢
  generalize W1.heap.size = vb at HW1 ⊢
  go_loopw [8] (fun s wr => ∃ (i : Nat) (v : Value), i ≤ x.l.length ∧ i ≤ 12 ∧ s = .int .i64 (i : Int) ∧ FtB w 5 tO x p c vb (fitTo tO x i) v wr) (fun s _ => 12 - (intOf s).toNat)
  case atStart => exact ⟨0, _, by omega, by omega, rfl, HW1.out⟩
  case round =>
    obtain ⟨i, v, hil, hi12, rfl, hof⟩ := hrel
    clear HW1
    have HOF := Lib.hid hof
    obtain ⟨hT, hR, hV1, hV2, hvb, hown, hB⟩ := hof
    have hr3 := hR.at 3 (u := .slice p x.l.length c) rfl
    obtain ⟨tk0, tk1⟩ := hT.facts
    obtain ⟨⟨c0, c1, c2, c3⟩, f0, f1, f2, f3⟩ := hV2.facts
    obtain ⟨⟨e0, e1, e2, e3⟩, g0, g1, g2, g3⟩ := hV1.facts
    have hz := hV2.lt
    obtain ⟨vp, vc, hv⟩ : ∃ vp vc, v = .slice vp i vc := by
      rw [fitTo_len tO x i hil] at hown
      rcases hown.2 with ⟨h, h'⟩ | ⟨g, cap, _, h, _⟩
      · exact ⟨none, 0, by rw [h, h']⟩
      · exact ⟨_, _, h⟩
    subst hv
    have hne2 : w.heap.size + 2 ≠ vb := by omega
    have hne3 : vb ≠ w.heap.size + 2 := by omega
    by_cases hlt : i < x.l.length
    · have d1 : decide (i < x.l.length) = true := decide_eq_true hlt
      by_cases h12 : i < 12
      · have d2 : decide ((i : Int) < 12) = true := decide_eq_true (by omega)
        have d0 : (0 : Int) ≤ (i : Int) := by omega
        have d3 : (i : Int) < (x.l.length : Int) := by omega
        obtain ⟨b, off, rfl, hb, hc⟩ := HL.out.at (by omega)
        obtain ⟨y, hy⟩ : ∃ y, x.l[i] = y := ⟨_, rfl⟩
        have hcx : ∀ (j : Nat) (u : Value), (y.cells)[j]? = some u → wr.cell? ⟨b, off + i * 3 + j, none⟩ = some u := fun j u hu => by
          rw [hB.cell (p := ⟨b, off + i * 3 + j, none⟩) hb, Nat.add_assoc]
          exact hc _ _ (rawsCells_at x.l i hlt j u (by rw [hy]; exact hu))
        have y0 := hcx 0 _ rfl
        have y1 := hcx 1 _ rfl
        have y2 := hcx 2 _ rfl
        have hcall := HONE.out i hlt
        have hsucc := fitTo_succ tO x i hlt
        rw [hy] at hcall hsucc
        generalize fitV tO y = u at hcall hsucc
        obtain ⟨uk, un, us, ul⟩ := u
        obtain ⟨yk, yn, ys⟩ := y
        simp only [itOf, V.k, V.n, V.s, It.v] at hcall
        simp only at y0 y1 y2
        have hsw : ∀ W W' : World, (W.cell? ⟨w.heap.size, 1, none⟩ = some (.int .i64 tO) ∧ W.cell? ⟨w.heap.size + 1, 3, none⟩ = some (.slice (some ⟨b, off, none⟩) x.l.length c) ∧ W.cell? ⟨vb, 3, none⟩ = some (.slice vp i vc) ∧ W.cell? ⟨b, off + i * 3, none⟩ = some (.int .i64 yk) ∧ W.cell? ⟨b, off + i * 3 + 1, none⟩ = some (.int .i64 yn) ∧ W.cell? ⟨b, off + i * 3 + 2, none⟩ = some (.string ys) ∧ (b < W.heap.size ∧ w.heap.size + 3 ≤ vb ∧ vb < W.heap.size)) → Below W.heap.size W W' → (W'.cell? ⟨w.heap.size, 1, none⟩ = some (.int .i64 tO) ∧ W'.cell? ⟨w.heap.size + 1, 3, none⟩ = some (.slice (some ⟨b, off, none⟩) x.l.length c) ∧ W'.cell? ⟨vb, 3, none⟩ = some (.slice vp i vc) ∧ W'.cell? ⟨b, off + i * 3, none⟩ = some (.int .i64 yk) ∧ W'.cell? ⟨b, off + i * 3 + 1, none⟩ = some (.int .i64 yn) ∧ W'.cell? ⟨b, off + i * 3 + 2, none⟩ = some (.string ys) ∧ (b < W'.heap.size ∧ w.heap.size + 3 ≤ vb ∧ vb < W'.heap.size)) := by
          rintro W W' ⟨a1, a2, a3, a4, a5, a6, z1, z2, z3⟩ hB
          have g : ∀ (q : Addr) (v : Value), q.block < W.heap.size → W.cell? q = some v → W'.cell? q = some v := fun q v hq hv => (hB.cell hq).trans hv
          have hs := hB.size
          exact ⟨g _ _ (by show w.heap.size < _; omega) a1, g _ _ (by show w.heap.size + 1 < _; omega) a2, g _ _ z3 a3, g _ _ z1 a4, g _ _ z1 a5, g _ _ z1 a6, by omega, by omega, by omega⟩
        have hgo : ∀ g, (Value.slice vp i vc).ownBlock = some g → vb + 1 ≤ g := fun g hg' => (hown.lt g hg').1
        have hbw : b < wr.heap.size := by have := hB.size; omega
        have hS1 := hsw wr wr.drew ⟨tk1, hr3, c3, y0, y1, y2, hbw, hvb, hz⟩ (Below.refl _ _).drew
        have hv2 : VBox wr.drew vb 5 0 ⟨#[]⟩ (.slice vp i vc) := hV2.below (Below.refl _ _).drew
        have hvg : ∀ W1 W2, Below wr.drew.heap.size wr.drew W1 → (W1.alloc (.cells #[.int .i64 uk, .int .i64 un, .string us, .slice none 0 0] 28)).grownBy W2 (Value.slice vp i vc).ownBlock → W2.cell? ⟨vb, 3, none⟩ = some (.slice vp i vc) ∧ W2.frozen? ⟨vb, 3, none⟩ = false := fun W1 W2 h hg => by
          have : VBox W2 vb 5 0 ⟨#[]⟩ (.slice vp i vc) := Bx.grown (T := 28) ((hv2.below h).alloc _) hg (fun e => by have := hgo _ e.symm; omega)
          exact ⟨this.facts.1.2.2.2, this.facts.2.2.2.2⟩
        have howd : ∀ W1, Below wr.drew.heap.size wr.drew W1 → (W1.alloc (.cells #[.int .i64 uk, .int .i64 un, .string us, .slice none 0 0] 28)).ownsRow (vb + 1) 28 4 (.slice vp i vc) i (itsCells ((fitTo tO x i).map itOf)) := fun W1 h => by
          rw [fitTo_len tO x i hil] at hown
          exact (owned_below (owned_below hown (Below.refl _ _).drew) h).alloc _
        have hnext : ∀ W1 W2 (v' : Value), Below wr.drew.heap.size wr.drew W1 → (W1.alloc (.cells #[.int .i64 uk, .int .i64 un, .string us, .slice none 0 0] 28)).grownBy W2 (Value.slice vp i vc).ownBlock → W2.ownsRow (vb + 1) 28 4 v' (i + 1) (itsCells ((fitTo tO x i).map itOf) ++ [.int .i64 uk, .int .i64 un, .string us, .slice none 0 0]) → FtB w 5 tO x (some ⟨b, off, none⟩) c vb (fitTo tO x (i + 1)) v' (W2.setCell ⟨vb, 3, none⟩ v') := fun W1 W2 v' h1 h2 h3 => by
          rw [hsucc]
          have h4 := ((HOF.out.below (Below.refl _ _).drew).below h1).below ((Below.refl _ W1).alloc (Nat.le_refl _) (.cells #[.int .i64 uk, .int .i64 un, .string us, .slice none 0 0] 28))
          exact h4.next (u := .mk uk un us ul) h2 (by rw [fitTo_len tO x i hil]; exact h3)
        have hzd : wr.drew.heap.size = wr.heap.size := rfl
        have HSW := Lib.hid hsw
        have HVG := Lib.hid hvg
        have HOWD := Lib.hid howd
        have HNEXT := Lib.hid hnext
        have HC := Lib.hid hcall
        clear hsw hvg hgo hv2 howd hnext hcall hcx hc hy hsucc hown hR hV1 hV2 hT e0 e1 e2 e3 g0 g1 g2 g3 f0 f1 f2 c0 c1 c2
        go_wp2_with fail
        refine wp_region_T (fun W : World => W.cell? ⟨w.heap.size, 1, none⟩ = some (.int .i64 tO) ∧ W.cell? ⟨w.heap.size + 1, 3, none⟩ = some (.slice (some ⟨b, off, none⟩) x.l.length c) ∧ W.cell? ⟨vb, 3, none⟩ = some (.slice vp i vc) ∧ W.cell? ⟨b, off + i * 3, none⟩ = some (.int .i64 yk) ∧ W.cell? ⟨b, off + i * 3 + 1, none⟩ = some (.int .i64 yn) ∧ W.cell? ⟨b, off + i * 3 + 2, none⟩ = some (.string ys) ∧ (b < W.heap.size ∧ w.heap.size + 3 ≤ vb ∧ vb < W.heap.size)) (fun j => j == 12 || j == 13 || j == 14) (by kernel_rfl) ?_
        refine wpAnyT_take (i := 0) (v := ?v0) rfl (by kernel_rfl) (by kernel_rfl) (by kernel_rfl) (by kernel_rfl) (by kernel_rfl) (fun _ _ _ h => h) (Or.inl ⟨by rfl, ?y0⟩) (hS1) ?r0
        case y0 => (intro w hSw; (try dsimp only at hSw); go_simp; try with_reducible rfl)
        try simp only [Act.put, List.setIfInBounds_toArray, List.set_cons_zero, List.set_cons_succ, List.getElem_toArray, List.getElem_cons_succ, List.getElem_cons_zero]
        refine wpAnyT_take (i := 1) (v := ?v1) rfl (by kernel_rfl) (by kernel_rfl) (by kernel_rfl) (by kernel_rfl) (by kernel_rfl) (fun _ _ _ h => h) (Or.inl ⟨by rfl, ?y1⟩) (hS1) ?r1
        case y1 => (intro w hSw; (try dsimp only at hSw); go_simp; try with_reducible rfl)
        try simp only [Act.put, List.setIfInBounds_toArray, List.set_cons_zero, List.set_cons_succ, List.getElem_toArray, List.getElem_cons_succ, List.getElem_cons_zero]
        refine wpAnyT_take (i := 2) (v := ?v2) rfl (by kernel_rfl) (by kernel_rfl) (by kernel_rfl) (by kernel_rfl) (by kernel_rfl) (fun _ _ _ h => h) (Or.inl ⟨by rfl, ?y2⟩) (hS1) ?r2
        case y2 => (intro w hSw; (try dsimp only at hSw); go_simp; try with_reducible rfl)
        try simp only [Act.put, List.setIfInBounds_toArray, List.set_cons_zero, List.set_cons_succ, List.getElem_toArray, List.getElem_cons_succ, List.getElem_cons_zero]
        refine wpAnyT_take (i := 3) (v := ?v3) rfl (by kernel_rfl) (by kernel_rfl) (by kernel_rfl) (by kernel_rfl) (by kernel_rfl) (fun _ _ _ h => h) (Or.inl ⟨by rfl, ?y3⟩) (hS1) ?r3
        case y3 => (intro w hSw; (try dsimp only at hSw); go_simp; try with_reducible rfl)
        try simp only [Act.put, List.setIfInBounds_toArray, List.set_cons_zero, List.set_cons_succ, List.getElem_toArray, List.getElem_cons_succ, List.getElem_cons_zero]
        refine wpAnyT_take (i := 4) (v := ?v4) rfl (by kernel_rfl) (by kernel_rfl) (by kernel_rfl) (by kernel_rfl) (by kernel_rfl) (fun _ _ _ h => h) (Or.inl ⟨by rfl, ?y4⟩) (hS1) ?r4
        case y4 => (intro w hSw; (try dsimp only at hSw); go_simp; try with_reducible rfl)
        try simp only [Act.put, List.setIfInBounds_toArray, List.set_cons_zero, List.set_cons_succ, List.getElem_toArray, List.getElem_cons_succ, List.getElem_cons_zero]
        refine wpAnyT_take (i := 5) (v := ?v5) rfl (by kernel_rfl) (by kernel_rfl) (by kernel_rfl) (by kernel_rfl) (by kernel_rfl) (fun _ _ _ h => h) (Or.inl ⟨by rfl, ?y5⟩) (hS1) ?r5
        case y5 => (intro w hSw; (try dsimp only at hSw); go_simp; try with_reducible rfl)
        try simp only [Act.put, List.setIfInBounds_toArray, List.set_cons_zero, List.set_cons_succ, List.getElem_toArray, List.getElem_cons_succ, List.getElem_cons_zero]
        refine wpAnyT_take (i := 6) (v := ?v6) rfl (by kernel_rfl) (by kernel_rfl) (by kernel_rfl) (by kernel_rfl) (by kernel_rfl) (fun _ _ _ h => h) (Or.inl ⟨by rfl, ?y6⟩) (hS1) ?r6
        case y6 => (intro w hSw; (try dsimp only at hSw); go_simp; try with_reducible rfl)
        try simp only [Act.put, List.setIfInBounds_toArray, List.set_cons_zero, List.set_cons_succ, List.getElem_toArray, List.getElem_cons_succ, List.getElem_cons_zero]
        refine wpAnyT_take (i := 7) (v := ?v7) rfl (by kernel_rfl) (by kernel_rfl) (by kernel_rfl) (by kernel_rfl) (by kernel_rfl) (fun _ _ _ h => h) (Or.inl ⟨by rfl, ?y7⟩) (hS1) ?r7
        case y7 => (intro w hSw; (try dsimp only at hSw); go_simp; try with_reducible rfl)
        try simp only [Act.put, List.setIfInBounds_toArray, List.set_cons_zero, List.set_cons_succ, List.getElem_toArray, List.getElem_cons_succ, List.getElem_cons_zero]
        refine wpAnyT_take (i := 8) (v := ?v8) rfl (by kernel_rfl) (by kernel_rfl) (by kernel_rfl) (by kernel_rfl) (by kernel_rfl) (fun _ _ _ h => h) (Or.inl ⟨by rfl, ?y8⟩) (hS1) ?r8
        case y8 => (intro w hSw; (try dsimp only at hSw); go_simp; try with_reducible rfl)
        try simp only [Act.put, List.setIfInBounds_toArray, List.set_cons_zero, List.set_cons_succ, List.getElem_toArray, List.getElem_cons_succ, List.getElem_cons_zero]
        refine wpAnyT_take (i := 9) (v := ?v9) rfl (by kernel_rfl) (by kernel_rfl) (by kernel_rfl) (by kernel_rfl) (by kernel_rfl) (fun _ _ _ h => h) (Or.inl ⟨by rfl, ?y9⟩) (hS1) ?r9
        case y9 => (intro w hSw; (try dsimp only at hSw); go_simp; try with_reducible rfl)
        try simp only [Act.put, List.setIfInBounds_toArray, List.set_cons_zero, List.set_cons_succ, List.getElem_toArray, List.getElem_cons_succ, List.getElem_cons_zero]
        refine wpAnyT_run (i := 10) (by kernel_rfl) rfl (fun K hK => ?_)
        go_simp
        (refine (HC.out _).mono ?_; rintro e W1 ⟨rfl, hB1⟩)
        have hS2 := HSW.out _ _ hS1 hB1
        go_wp2_with fail
        refine hK.out _ _ (fun _ => hS2) ?_
        clear hK K
        try simp only [Act.put, List.setIfInBounds_toArray, List.set_cons_zero, List.set_cons_succ, List.getElem_toArray, List.getElem_cons_succ, List.getElem_cons_zero]
        refine wpAnyT_run (i := 11) (by kernel_rfl) rfl (fun K hK => ?_)
        go_simp
        refine hK.out _ _ (fun _ => HSW.out _ _ hS2 ((Below.refl _ _).alloc (Nat.le_refl _) _)) ?_
        clear hK K
        try simp only [Act.put, List.setIfInBounds_toArray, List.set_cons_zero, List.set_cons_succ, List.getElem_toArray, List.getElem_cons_succ, List.getElem_cons_zero]
        refine wpAnyT_run (i := 12) (by kernel_rfl) rfl (fun K hK => ?_)
        (refine step_append_lies _ (by rfl) _ _ _ (by rfl) (vb + 1) 28 i0 _ 4 56 Tryd.underlying26 hi hz0 hz1 hz2 rfl (by omega) _ i _ (by rfl) (HOWD.out _ hB1) ⟨W1.heap.size, 0, none⟩ 1 1 [.int .i64 uk, .int .i64 un, .string us, .slice none 0 0] (by rfl) (by rfl) (World.news_of_block (cs := #[.int .i64 uk, .int .i64 un, .string us, .slice none 0 0]) (t := 28) (fr := (0, 0)) (heap_alloc_new W1 _)) (by simp [Value.oneCell']) (by omega) (by simp [maxLen]; omega) (by omega) (by have := hB1.size; simp; omega) (W1.heap.size + 1) (by simp) ?_; intro gg cap w2 hown1 hgrow hat hlt2)
        obtain ⟨q3, q4⟩ := HVG.out _ _ hB1 hgrow
        refine hK.out _ _ (fun h => absurd h (by decide)) ?_
        clear hK K
        try simp only [Act.put, List.setIfInBounds_toArray, List.set_cons_zero, List.set_cons_succ, List.getElem_toArray, List.getElem_cons_succ, List.getElem_cons_zero]
        refine wpAnyT_run (i := 13) (by kernel_rfl) rfl (fun K hK => ?_)
        go_simp
        refine hK.out _ _ (fun h => absurd h (by decide)) ?_
        clear hK K
        try simp only [Act.put, List.setIfInBounds_toArray, List.set_cons_zero, List.set_cons_succ, List.getElem_toArray, List.getElem_cons_succ, List.getElem_cons_zero]
        refine wpAnyT_run (i := 14) (by kernel_rfl) rfl (fun K hK => ?_)
        go_simp
        refine hK.out _ _ (fun h => absurd h (by decide)) ?_
        clear hK K
        try simp only [Act.put, List.setIfInBounds_toArray, List.set_cons_zero, List.set_cons_succ, List.getElem_toArray, List.getElem_cons_succ, List.getElem_cons_zero]
        refine wpAnyT_done (by kernel_rfl) ?_ _
        go_wp2_with fail
        exact ⟨⟨i + 1, _, by omega, by omega, by go_num, HNEXT.out _ _ _ hB1 hgrow hown1⟩, by simp [intOf]; omega⟩
      · obtain rfl : i = 12 := by omega
        have d1 : decide ((12 : Nat) < x.l.length) = true := decide_eq_true hlt
        have hv := HVOF.out 12 hil hi12 (by omega)
        have HV := Lib.hid hv
        clear hv
        go_wp2_with fail
        have hL : Lies wr (.slice vp 12 vc) ((fitTo tO x 12).map itOf).length 4 (itsCells ((fitTo tO x 12).map itOf)) := by
          have := Lies.own hown
          rwa [List.length_map]
        have hne2 : ∀ a m' c', (Value.slice vp 12 vc) = .slice (some a) m' c' → a.block ≠ w.heap.size + 2 := fun a m' c' ha => by
          injection ha with h1 _ _
          have := (hown.lt a.block (by rw [h1]; rfl)).1
          omega
        have hL9 := (((hL.past ⟨w.heap.size + 2, 0, none⟩ hne2 (.int .i64 5)).past ⟨w.heap.size + 2, 1, none⟩ hne2 (.int .i64 0)).past ⟨w.heap.size + 2, 2, none⟩ hne2 (.string ⟨#[]⟩)).past ⟨w.heap.size + 2, 3, none⟩ hne2 (.slice vp 12 vc)
        obtain ⟨hVo, hBo⟩ := out_box HOF.out.2.2.1 HOF.out.2.2.2.2.2.2 (by omega) 5 0 ⟨#[]⟩ (.slice vp 12 vc)
        unfold putBox at hVo hBo
        generalize (((wr.setCell ⟨w.heap.size + 2, 0, none⟩ (.int .i64 5)).setCell ⟨w.heap.size + 2, 1, none⟩ (.int .i64 0)).setCell ⟨w.heap.size + 2, 2, none⟩ (.string ⟨#[]⟩)).setCell ⟨w.heap.size + 2, 3, none⟩ (.slice vp 12 vc) = W9 at hVo hBo hL9 ⊢
        obtain ⟨⟨x0, x1, x2, x3⟩, _⟩ := hVo.facts
        have hat := vat_list (us := fitTo tO x 12) (by rw [fitTo_len tO x 12 hil]; omega) (by simp) hL9 (fun i h h' => by rw [List.getElem_map]; exact itm_of (fitTo_flat tO hto x _ _ _))
        exact bodyPost_ret (v := valV 5 0 ⟨#[]⟩ (.slice vp 12 vc)) (by simp [results, Tryd.results21, go_sem, x0, x1, x2, x3]) rfl ⟨⟨5, 0, ⟨#[]⟩, vp, 12, vc⟩, rfl, by rw [HV.out]; exact hat, hBo⟩
    · have d1 : decide (i < x.l.length) = false := decide_eq_false hlt
      have hv := HVOF.out i hil hi12 (by omega)
      have HV := Lib.hid hv
      clear hv
      go_wp2_with fail
      have hL : Lies wr (.slice vp i vc) ((fitTo tO x i).map itOf).length 4 (itsCells ((fitTo tO x i).map itOf)) := by
        have := Lies.own hown
        rwa [List.length_map]
      have hne2 : ∀ a m' c', (Value.slice vp i vc) = .slice (some a) m' c' → a.block ≠ w.heap.size + 2 := fun a m' c' ha => by
        injection ha with h1 _ _
        have := (hown.lt a.block (by rw [h1]; rfl)).1
        omega
      have hL9 := (((hL.past ⟨w.heap.size + 2, 0, none⟩ hne2 (.int .i64 5)).past ⟨w.heap.size + 2, 1, none⟩ hne2 (.int .i64 0)).past ⟨w.heap.size + 2, 2, none⟩ hne2 (.string ⟨#[]⟩)).past ⟨w.heap.size + 2, 3, none⟩ hne2 (.slice vp i vc)
      obtain ⟨hVo, hBo⟩ := out_box HOF.out.2.2.1 HOF.out.2.2.2.2.2.2 (by omega) 5 0 ⟨#[]⟩ (.slice vp i vc)
      unfold putBox at hVo hBo
      generalize (((wr.setCell ⟨w.heap.size + 2, 0, none⟩ (.int .i64 5)).setCell ⟨w.heap.size + 2, 1, none⟩ (.int .i64 0)).setCell ⟨w.heap.size + 2, 2, none⟩ (.string ⟨#[]⟩)).setCell ⟨w.heap.size + 2, 3, none⟩ (.slice vp i vc) = W9 at hVo hBo hL9 ⊢
      obtain ⟨⟨x0, x1, x2, x3⟩, _⟩ := hVo.facts
      have hat := vat_list (us := fitTo tO x i) (by rw [fitTo_len tO x i hil]; omega) (by simp) hL9 (fun i h h' => by rw [List.getElem_map]; exact itm_of (fitTo_flat tO hto x _ _ _))
      exact bodyPost_ret (v := valV 5 0 ⟨#[]⟩ (.slice vp i vc)) (by simp [results, Tryd.results21, go_sem, x0, x1, x2, x3]) rfl ⟨⟨5, 0, ⟨#[]⟩, vp, i, vc⟩, rfl, by rw [HV.out]; exact hat, hBo⟩
end Go.Proofs.YtbmfclankoblfaaDoor

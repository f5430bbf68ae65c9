/- The walk of ValFits. -/
import Derived.Test.YtbmfclankoblfaaDoorBun15
import Derived.Test.YtbmfclankoblfaaDoorBun6
import Derived.Test.YtbmfclankoblfaaDoorFitFlatZ
import Derived.Test.YtbmfclankoblfaaDoorBun14
set_option linter.unusedSimpArgs false
set_option linter.unusedVariables false
namespace Go.Proofs.YtbmfclankoblfaaDoor
open Go Go.RowKit Go.Shelf

theorem rtB_cases {k o : Int} (h : rtB k o = true) : (k = 5 ∧ 1 ≤ o ∧ o ≤ 4) ∨ (k ≠ 5 ∧ 1 ≤ k ∧ k ≤ 4 ∧ o = 0) := by
  unfold rtB at h
  split at h
  · have := of_decide_eq_true h; omega
  · have := of_decide_eq_true h; omega
theorem item_fits (tk tO : Int) (x : Raw) (h : rtB tk tO = true) : ∀ u ∈ (fitVal tk tO x).l, fitsB u tO 0 = true := by
  intro u hu
  rcases rtB_cases h with ⟨rfl, h1, h2⟩ | ⟨h5, h1, h2, rfl⟩
  · unfold fitVal at hu
    rw [if_pos rfl] at hu
    obtain ⟨r, _, rfl⟩ := List.mem_map.1 hu
    have hr : rtB tO 0 = true := by
      unfold rtB
      rw [if_neg (by omega)]
      exact decide_eq_true ⟨⟨h1, h2⟩, rfl⟩
    unfold fitsB
    rw [hr, flat_okV (fitV_flat tO r (by omega)), if_neg (by omega), fitV_kind tO r h1 h2]
    rfl
  · unfold fitVal at hu
    rw [if_neg h5] at hu
    have := (flatOk_parts (fitV_flat tk ⟨x.k, x.n, x.s⟩ h5)).2.2.1
    rw [List.length_eq_zero_iff.1 this] at hu
    exact absurd hu (by simp)
theorem zero_fits (tk tO : Int) (h : rtB tk tO = true) : fitsB (.mk (zeroK tk tO) 0 ⟨#[]⟩ []) tk tO = true ∧ (V.mk (zeroK tk tO) 0 ⟨#[]⟩ []).ok = true := by
  have hc : tk = 1 ∨ tk = 2 ∨ tk = 3 ∨ tk = 4 ∨ tk = 5 := by have := rtB_cases h; omega
  unfold fitsB
  rw [h]
  rcases hc with rfl | rfl | rfl | rfl | rfl
  · rw [show zeroK 1 tO = 1 from if_pos ⟨h, by decide, by decide⟩]; exact ⟨rfl, by decide⟩
  · rw [show zeroK 2 tO = 2 from if_pos ⟨h, by decide, by decide⟩]; exact ⟨rfl, by decide⟩
  · rw [show zeroK 3 tO = 0 from if_neg (fun h => h.2.1 rfl)]; exact ⟨rfl, by decide⟩
  · rw [show zeroK 4 tO = 0 from if_neg (fun h => h.2.2 rfl)]; exact ⟨rfl, by decide⟩
  · rw [show zeroK 5 tO = 5 from if_pos ⟨h, by decide, by decide⟩]; exact ⟨rfl, by decide⟩
theorem fits_other (k1 o1 k2 o2 : Int) (x : Raw) (h1 : rtB k1 o1 = true) (h2 : rtB k2 o2 = true) (hne : k1 ≠ k2) :
    fitsB (fitVal k1 o1 x) k2 o2 = (((k1 == 3 || k1 == 4) && (k2 == 3 || k2 == 4)) && (fitVal k1 o1 x).k == 0) := by
  have hok := fitVal_ok k1 o1 x (by have := rtB_cases h1; omega)
  have hk : fitsB (fitVal k1 o1 x) k1 o1 = true := fitVal_fits k1 o1 x h1
  unfold fitsB at hk
  rw [h1, hok, Bool.true_and, Bool.true_and] at hk
  unfold fitsB
  rw [h2, hok, Bool.true_and, Bool.true_and]
  have c1 := rtB_cases h1
  have c2 := rtB_cases h2
  generalize fitVal k1 o1 x = v at hk
  by_cases e2 : k2 = 5
  · subst e2
    rw [if_pos rfl]
    rw [if_neg hne] at hk
    have hv := of_decide_eq_true hk
    have : (v.k == 5) = false := beq_eq_false_iff_ne.2 (by omega)
    rw [this, Bool.and_false, show ((5 : Int) == 3 || (5 : Int) == 4) = false from rfl, Bool.and_false, Bool.false_and]
  · rw [if_neg e2]
    unfold fkB at hk ⊢
    by_cases e1 : k1 = 5
    · subst e1
      rw [if_pos rfl, Bool.and_eq_true] at hk
      have hv := eq_of_beq hk.2
      rw [show ((5 : Int) == 3 || (5 : Int) == 4) = false from rfl, Bool.false_and, Bool.false_and]
      exact decide_eq_false (by omega)
    · rw [if_neg e1] at hk
      have hv := of_decide_eq_true hk
      rw [Bool.eq_iff_iff, decide_eq_true_iff]
      simp only [Bool.and_eq_true, Bool.or_eq_true, beq_iff_eq]
      omega

/-- what holds of the world once all three boxes are laid -/
structure FSt (ea : Addr) (w : World) (k1 o1 k2 o2 : Int) (b1 b2 vb : Nat) (v : V) (y : It) (W : World) : Prop where
  ok : Ok ea w W
  t1 : TBox W b1 k1 o1
  t2 : TBox W b2 k2 o2
  v : VAtBox W vb v y
theorem FSt.below {ea : Addr} {w : World} {k1 o1 k2 o2 : Int} {b1 b2 vb : Nat} {v : V} {y : It} {W W' : World} (h : FSt ea w k1 o1 k2 o2 b1 b2 vb v y W) (hb : Below W.heap.size W W') : FSt ea w k1 o1 k2 o2 b1 b2 vb v y W' :=
  ⟨h.ok.below hb, h.t1.below hb, h.t2.below hb, h.v.below hb⟩
theorem FSt.facts {ea : Addr} {w : World} {k1 o1 k2 o2 : Int} {b1 b2 vb : Nat} {v : V} {y : It} {W : World} (h : FSt ea w k1 o1 k2 o2 b1 b2 vb v y W) :
    W.cell? ⟨b1, 0, none⟩ = some (.int .i64 k1) ∧ W.cell? ⟨b1, 1, none⟩ = some (.int .i64 o1) ∧ W.cell? ⟨b2, 0, none⟩ = some (.int .i64 k2) ∧ W.cell? ⟨b2, 1, none⟩ = some (.int .i64 o2) ∧
    W.cell? ⟨vb, 0, none⟩ = some (.int .i64 y.k) ∧ W.cell? ⟨vb, 1, none⟩ = some (.int .i64 y.n) ∧ W.cell? ⟨vb, 2, none⟩ = some (.string y.s) ∧ W.cell? ⟨vb, 3, none⟩ = some (.slice y.p y.m y.c) := by
  obtain ⟨a0, a1⟩ := h.t1.facts
  obtain ⟨b0, b1⟩ := h.t2.facts
  obtain ⟨⟨c0, c1, c2, c3⟩, _⟩ := h.v.box.facts
  exact ⟨a0, a1, b0, b1, c0, c1, c2, c3⟩

set_option maxHeartbeats 2000000 in
set_option maxRecDepth 100000 in
theorem valFits_walk (a : Int) (ha1 : -9223372036854775808 ≤ a) (ha2 : a ≤ 9223372036854775807) (b : Int) (hb1 : -9223372036854775808 ≤ b) (hb2 : b ≤ 9223372036854775807) (c : Int) (hc1 : -9223372036854775808 ≤ c) (hc2 : c ≤ 9223372036854775807) (d : Int) (hd1 : -9223372036854775808 ≤ d) (hd2 : d ≤ 9223372036854775807)
    (x : Raw) (hx : x.fine) (p : Option Addr) (cp : Nat) (ea : Addr) (w : World) (hT : Tabs w) (hE : errLies ea w) (hL : Lies w (.slice p x.l.length cp) x.l.length 3 (rawsCells x.l)) :
    Calls Tryd.prog 6 #[.int .i64 a, .int .i64 b, .int .i64 c, .int .i64 d, rawV x p cp] w fun e w' => e = .returned (.bool true) ∧ Below w.heap.size w w' := by
  have O0 := (Ok.alloc (ea := ea) (w := w) ⟨hT, hE, Below.refl _ _⟩ (.cells (rawA x p cp) 24))
  have R0 := RawBox.new w hx hL
  have ht1 := fun W => valType_any a b ha1 ha2 hb1 hb2 W
  have ht2 := fun W => valType_any c d hc1 hc2 hd1 hd2 W
  have h1 := ty_right a b
  have h2 := ty_right c d
  generalize tyK a = k1 at ht1 h1
  generalize typeO a b = o1 at ht1 h1
  generalize tyK c = k2 at ht2 h2
  generalize typeO c d = o2 at ht2 h2
  have hfit := fun W hL => valFit_any k1 o1 (by have := rtB_cases h1; omega) x hx p cp W hL
  unfold fitPost at hfit
  have hself := fitVal_fits k1 o1 x h1
  have hitems := item_fits k1 o1 x h1
  have hoth := fits_other k1 o1 k2 o2 x h1 h2
  obtain ⟨hz1, hz2⟩ := zero_fits k1 o1 h1
  generalize fitVal k1 o1 x = v at hfit hself hitems hoth
  have hfz := fun W (hT : Tabs W) => fits_V 1 (.mk (zeroK k1 o1) 0 ⟨#[]⟩ []) ⟨zeroK k1 o1, 0, ⟨#[]⟩, none, 0, 0⟩ k1 o1 W (vat_nil 1 W (ok_fine hz2) rfl) hT
  rw [hz1] at hfz
  have hf1 := fun W y (hv : VAt 1 W v y) (hT : Tabs W) => fits_V 1 v y k1 o1 W hv hT
  rw [hself] at hf1
  have hf2 := fun W y (hv : VAt 1 W v y) (hT : Tabs W) => fits_V 1 v y k2 o2 W hv hT
  have heq : k1 = k2 → k1 ≠ 5 → o1 = o2 := by
    intro e hk
    have := rtB_cases h1
    have := rtB_cases h2
    omega
  have heq2 : k1 = k2 → o1 = o2 → fitsB v k2 o2 = true := by
    rintro rfl rfl
    exact hself
  generalize fitsB v k2 o2 = ot at hf2 hoth heq2
  have hzc := fun W => zero_any k1 o1 W
  generalize zeroK k1 o1 = zz at hzc hfz
  have hit := fun W u y (hu : u ∈ v.l) (hv : VAt 0 W u y) (hT : Tabs W) => fits_V 0 u y o1 0 W hv hT
  have hit' : ∀ W u y, u ∈ v.l → VAt 0 W u y → Tabs W → Calls Tryd.prog 22 #[y.v, .agg #[.int .i64 o1, .int .i64 0]] W fun e w' => e = .returned (.bool true) ∧ Below W.heap.size W w' := fun W u y hu hv hT => by
    have := hit W u y hu hv hT
    rwa [hitems u hu] at this
  clear hit
  have H1 := Lib.hid h1
  have H2 := Lib.hid h2
  have HT1 := Lib.hid ht1
  have HT2 := Lib.hid ht2
  have HFIT := Lib.hid hfit
  have HOTH := Lib.hid hoth
  have HFZ := Lib.hid hfz
  have HFA := Lib.hid hf1
  have HFB := Lib.hid hf2
  have HEQ := Lib.hid heq
  have HEQ2 := Lib.hid heq2
  have HZ := Lib.hid hzc
  have HIT := Lib.hid hit'
  clear hT hE hL hx h1 h2 ht1 ht2 hfit hoth hfz hf1 hf2 heq heq2 hzc hit' hself hitems hz1 hz2
  go_enter Tryd.func6, Tryd.ntmps6
  go_wp2_with fail
  refine (awake_any ea _ O0.t O0.e).mono ?_
  rintro e W1 ⟨rfl, hB⟩
  have O1 := Lib.hid (O0.below hB)
  have R1 := Lib.hid (R0.below hB)
  clear hB O0 R0
  go_wp2_with fail
  refine (HT1.out _).mono ?_
  rintro e W2 ⟨rfl, hB⟩
  have O2 := Lib.hid ((O1.out.below hB).alloc (.cells #[.int .i64 k1, .int .i64 o1] 41))
  have R2 := Lib.hid ((R1.out.below hB).alloc (.cells #[.int .i64 k1, .int .i64 o1] 41))
  have A2 := Lib.hid (TBox.new W2 k1 o1)
  clear hB O1 R1
  go_wp2_with fail
  generalize W2.alloc (.cells #[.int .i64 k1, .int .i64 o1] 41) = U2 at O2 R2 A2 ⊢
  generalize W2.heap.size = b1 at A2 ⊢
  refine (HT2.out _).mono ?_
  rintro e W3 ⟨rfl, hB⟩
  have O3 := Lib.hid ((O2.out.below hB).alloc (.cells #[.int .i64 k2, .int .i64 o2] 41))
  have r3 := (R2.out.below hB).alloc (.cells #[.int .i64 k2, .int .i64 o2] 41)
  have a3 := (A2.out.below hB).alloc (.cells #[.int .i64 k2, .int .i64 o2] 41)
  have B3 := Lib.hid (TBox.new W3 k2 o2)
  clear hB O2 R2 A2
  obtain ⟨r0, r1, r2, r3'⟩ := r3.facts
  obtain ⟨t0, t1⟩ := a3.facts
  have R3 := Lib.hid r3
  have A3 := Lib.hid a3
  clear r3 a3
  go_wp2_with fail
  generalize W3.alloc (.cells #[.int .i64 k2, .int .i64 o2] 41) = U3 at O3 R3 A3 B3 r0 r1 r2 r3' t0 t1 ⊢
  generalize W3.heap.size = b2 at B3 ⊢
  refine (HFIT.out _ R3.out.lies).mono ?_
  rintro e W4 ⟨⟨yk, yn, ys, yp, ym, yc⟩, rfl, hv, hB⟩
  have F4 : FSt ea w k1 o1 k2 o2 b1 b2 W4.heap.size v ⟨yk, yn, ys, yp, ym, yc⟩ (W4.alloc (.cells #[.int .i64 yk, .int .i64 yn, .string ys, .slice yp ym yc] 28)) := ⟨(O3.out.below hB).alloc _, (A3.out.below hB).alloc _, (B3.out.below hB).alloc _, VAtBox.new hv⟩
  have HF4 := Lib.hid F4
  obtain ⟨g1, g2, g3, g4, c0, c1, c2, c3⟩ := F4.facts
  simp only at c0 c1 c2 c3
  clear F4 hB O3 A3 B3 R3 r0 r1 r2 r3' t0 t1 hv
  go_wp2_with fail
  generalize W4.alloc (.cells #[.int .i64 yk, .int .i64 yn, .string ys, .slice yp ym yc] 28) = U4 at HF4 g1 g2 g3 g4 c0 c1 c2 c3 ⊢
  generalize W4.heap.size = vb at HF4 ⊢
  have HF1 := Lib.hid (fun W => HFA.out W ⟨yk, yn, ys, yp, ym, yc⟩)
  have HF2 := Lib.hid (fun W => HFB.out W ⟨yk, yn, ys, yp, ym, yc⟩)
  clear HFA HFB
  refine (HF2.out _ HF4.out.v.at' HF4.out.ok.t).mono ?_
  rintro e W5 ⟨rfl, hB⟩
  have HF5 := Lib.hid (HF4.out.below hB)
  clear hB HF4 g1 g2 g3 g4 c0 c1 c2 c3
  go_wp2_with fail
  have hyk : yk = v.k := HF5.out.v.at'.top.2.1
  have hym : ym = v.l.length := HF5.out.v.at'.top.len
  have hyl : ym ≤ 9223372036854775807 := by rw [hym]; exact HF5.out.v.at'.top.1.l
  rw [← hyk] at HOTH
  have HYM := Lib.hid hym
  clear hym hyk
  go_loopw [16, 17] (fun s16 s17 wr => ∃ i : Nat, i ≤ ym ∧ s17 = .int .i64 (i : Int) ∧ s16 = .bool true ∧ FSt ea w k1 o1 k2 o2 b1 b2 vb v ⟨yk, yn, ys, yp, ym, yc⟩ wr) (fun _ s _ => ym - (intOf s).toNat)
  case atStart => exact ⟨0, by omega, rfl, rfl, HF5.out⟩
  case round =>
    obtain ⟨i, hi, rfl, rfl, hof⟩ := hrel
    clear HF5
    obtain ⟨g1, g2, g3, g4, c0, c1, c2, c3⟩ := hof.facts
    simp only at c0 c1 c2 c3
    by_cases hlt : i < ym
    · have d1 : decide ((i : Int) < (ym : Int)) = true := decide_eq_true (by omega)
      have d1' : decide (i < ym) = true := decide_eq_true hlt
      have d0 : (0 : Int) ≤ (i : Int) := by omega
      have d3 : (i : Int) < (ym : Int) := by omega
      obtain ⟨-, -, -, -, its, hlen, hlies, hin⟩ := hof.v.at'.top
      have hiy : ym = its.length := by rw [HYM.out, hlen]
      obtain ⟨b, off, rfl, hb, hc⟩ := hlies.at (by omega)
      have hi' : i < its.length := by omega
      have hitem0 := hin i hi' (by omega)
      have hmem : v.l[i]'(by omega) ∈ v.l := List.getElem_mem _
      have hcx : ∀ (j : Nat) (u : Value), ((its[i]'hi').cells)[j]? = some u → wr.cell? ⟨b, off + i * 4 + j, none⟩ = some u := fun j u hu => by
        rw [Nat.add_assoc]
        exact hc _ _ (itsCells_at its i hi' j u hu)
      generalize its[i]'hi' = z at hcx hitem0
      generalize v.l[i]'(by omega) = u0 at hitem0 hmem
      obtain ⟨zk, zn, zs, zp, zm, zc⟩ := z
      have z0 := hcx 0 _ rfl
      have z1 := hcx 1 _ rfl
      have z2 := hcx 2 _ rfl
      have z3 := hcx 3 _ rfl
      have hitem : u0 ∈ v.l ∧ VAt 0 wr.drew u0 ⟨zk, zn, zs, zp, zm, zc⟩ := ⟨hmem, VAt.below hitem0 (Below.refl _ _).drew⟩
      have hS1 : (fun W : World => W.cell? ⟨b1, 1, none⟩ = some (.int .i64 o1) ∧ W.cell? ⟨vb, 3, none⟩ = some (.slice (some ⟨b, off, none⟩) ym yc) ∧ W.cell? ⟨b, off + i * 4, none⟩ = some (.int .i64 zk) ∧ W.cell? ⟨b, off + i * 4 + 1, none⟩ = some (.int .i64 zn) ∧ W.cell? ⟨b, off + i * 4 + 2, none⟩ = some (.string zs) ∧ W.cell? ⟨b, off + i * 4 + 3, none⟩ = some (.slice zp zm zc)) wr.drew := ⟨g2, c3, z0, z1, z2, z3⟩
      simp only at hS1
      clear hcx hc hin hlen hlies hitem0 hmem hi' hiy
      go_wp2_with fail
      refine wp_region_T (fun W : World => W.cell? ⟨b1, 1, none⟩ = some (.int .i64 o1) ∧ W.cell? ⟨vb, 3, none⟩ = some (.slice (some ⟨b, off, none⟩) ym yc) ∧ W.cell? ⟨b, off + i * 4, none⟩ = some (.int .i64 zk) ∧ W.cell? ⟨b, off + i * 4 + 1, none⟩ = some (.int .i64 zn) ∧ W.cell? ⟨b, off + i * 4 + 2, none⟩ = some (.string zs) ∧ W.cell? ⟨b, off + i * 4 + 3, none⟩ = some (.slice zp zm zc)) (fun j => j == 10 || j == 11 || j == 12) (by kernel_rfl) ?_
      refine wpAnyT_take (i := 0) (v := ?v0) rfl (by kernel_rfl) (by kernel_rfl) (by kernel_rfl) (by kernel_rfl) (by kernel_rfl) (fun _ _ _ h => h) (Or.inl ⟨by rfl, ?y0⟩) (hS1) ?r0
      case y0 => (intro w hSw; (try dsimp only at hSw); go_simp; try with_reducible rfl)
      try simp only [Act.put, List.setIfInBounds_toArray, List.set_cons_zero, List.set_cons_succ, List.getElem_toArray, List.getElem_cons_succ, List.getElem_cons_zero]
      refine wpAnyT_take (i := 1) (v := ?v1) rfl (by kernel_rfl) (by kernel_rfl) (by kernel_rfl) (by kernel_rfl) (by kernel_rfl) (fun _ _ _ h => h) (Or.inl ⟨by rfl, ?y1⟩) (hS1) ?r1
      case y1 => (intro w hSw; (try dsimp only at hSw); go_simp; try with_reducible rfl)
      try simp only [Act.put, List.setIfInBounds_toArray, List.set_cons_zero, List.set_cons_succ, List.getElem_toArray, List.getElem_cons_succ, List.getElem_cons_zero]
      refine wpAnyT_take (i := 2) (v := ?v2) rfl (by kernel_rfl) (by kernel_rfl) (by kernel_rfl) (by kernel_rfl) (by kernel_rfl) (fun _ _ _ h => h) (Or.inl ⟨by rfl, ?y2⟩) (hS1) ?r2
      case y2 => (intro w hSw; (try dsimp only at hSw); go_simp; try with_reducible rfl)
      try simp only [Act.put, List.setIfInBounds_toArray, List.set_cons_zero, List.set_cons_succ, List.getElem_toArray, List.getElem_cons_succ, List.getElem_cons_zero]
      refine wpAnyT_take (i := 3) (v := ?v3) rfl (by kernel_rfl) (by kernel_rfl) (by kernel_rfl) (by kernel_rfl) (by kernel_rfl) (fun _ _ _ h => h) (Or.inl ⟨by rfl, ?y3⟩) (hS1) ?r3
      case y3 => (intro w hSw; (try dsimp only at hSw); go_simp; try with_reducible rfl)
      try simp only [Act.put, List.setIfInBounds_toArray, List.set_cons_zero, List.set_cons_succ, List.getElem_toArray, List.getElem_cons_succ, List.getElem_cons_zero]
      refine wpAnyT_take (i := 4) (v := ?v4) rfl (by kernel_rfl) (by kernel_rfl) (by kernel_rfl) (by kernel_rfl) (by kernel_rfl) (fun _ _ _ h => h) (Or.inl ⟨by rfl, ?y4⟩) (hS1) ?r4
      case y4 => (intro w hSw; (try dsimp only at hSw); go_simp; try with_reducible rfl)
      try simp only [Act.put, List.setIfInBounds_toArray, List.set_cons_zero, List.set_cons_succ, List.getElem_toArray, List.getElem_cons_succ, List.getElem_cons_zero]
      refine wpAnyT_take (i := 5) (v := ?v5) rfl (by kernel_rfl) (by kernel_rfl) (by kernel_rfl) (by kernel_rfl) (by kernel_rfl) (fun _ _ _ h => h) (Or.inl ⟨by rfl, ?y5⟩) (hS1) ?r5
      case y5 => (intro w hSw; (try dsimp only at hSw); go_simp; try with_reducible rfl)
      try simp only [Act.put, List.setIfInBounds_toArray, List.set_cons_zero, List.set_cons_succ, List.getElem_toArray, List.getElem_cons_succ, List.getElem_cons_zero]
      refine wpAnyT_take (i := 6) (v := ?v6) rfl (by kernel_rfl) (by kernel_rfl) (by kernel_rfl) (by kernel_rfl) (by kernel_rfl) (fun _ _ _ h => h) (Or.inl ⟨by rfl, ?y6⟩) (hS1) ?r6
      case y6 => (intro w hSw; (try dsimp only at hSw); go_simp; try with_reducible rfl)
      try simp only [Act.put, List.setIfInBounds_toArray, List.set_cons_zero, List.set_cons_succ, List.getElem_toArray, List.getElem_cons_succ, List.getElem_cons_zero]
      refine wpAnyT_take (i := 7) (v := ?v7) rfl (by kernel_rfl) (by kernel_rfl) (by kernel_rfl) (by kernel_rfl) (by kernel_rfl) (fun _ _ _ h => h) (Or.inl ⟨by rfl, ?y7⟩) (hS1) ?r7
      case y7 => (intro w hSw; (try dsimp only at hSw); go_simp; try with_reducible rfl)
      try simp only [Act.put, List.setIfInBounds_toArray, List.set_cons_zero, List.set_cons_succ, List.getElem_toArray, List.getElem_cons_succ, List.getElem_cons_zero]
      refine wpAnyT_take (i := 8) (v := ?v8) rfl (by kernel_rfl) (by kernel_rfl) (by kernel_rfl) (by kernel_rfl) (by kernel_rfl) (fun _ _ _ h => h) (Or.inl ⟨by rfl, ?y8⟩) (hS1) ?r8
      case y8 => (intro w hSw; (try dsimp only at hSw); go_simp; try with_reducible rfl)
      try simp only [Act.put, List.setIfInBounds_toArray, List.set_cons_zero, List.set_cons_succ, List.getElem_toArray, List.getElem_cons_succ, List.getElem_cons_zero]
      refine wpAnyT_take (i := 9) (v := ?v9) rfl (by kernel_rfl) (by kernel_rfl) (by kernel_rfl) (by kernel_rfl) (by kernel_rfl) (fun _ _ _ h => h) (Or.inl ⟨by rfl, ?y9⟩) (hS1) ?r9
      case y9 => (intro w hSw; (try dsimp only at hSw); go_simp; try with_reducible rfl)
      try simp only [Act.put, List.setIfInBounds_toArray, List.set_cons_zero, List.set_cons_succ, List.getElem_toArray, List.getElem_cons_succ, List.getElem_cons_zero]
      refine wpAnyT_run (i := 10) (by kernel_rfl) rfl (fun K hK => ?_)
      go_simp
      (refine (HIT.out _ _ ⟨zk, zn, zs, zp, zm, zc⟩ hitem.1 hitem.2 (hof.below (Below.refl _ _).drew).ok.t).mono ?_; rintro e W1 ⟨rfl, hB1⟩)
      go_wp2_with fail
      refine hK.out _ _ (fun h => absurd h (by decide)) ?_
      clear hK K
      try simp only [Act.put, List.setIfInBounds_toArray, List.set_cons_zero, List.set_cons_succ, List.getElem_toArray, List.getElem_cons_succ, List.getElem_cons_zero]
      refine wpAnyT_pure (i := 11) (v := ?v11) rfl (by kernel_rfl) rfl (by kernel_rfl) (by kernel_rfl) (fun _ _ _ h => h) (Or.inl ⟨by rfl, ?y11⟩) ?r11
      case y11 => (intro w hSw; clear hSw; go_simp; try with_reducible rfl)
      try simp only [Act.put, List.setIfInBounds_toArray, List.set_cons_zero, List.set_cons_succ, List.getElem_toArray, List.getElem_cons_succ, List.getElem_cons_zero]
      refine wpAnyT_pure (i := 12) (v := ?v12) rfl (by kernel_rfl) rfl (by kernel_rfl) (by kernel_rfl) (fun _ _ _ h => h) (Or.inl ⟨by rfl, ?y12⟩) ?r12
      case y12 => (intro w hSw; clear hSw; go_simp; try with_reducible rfl)
      try simp only [Act.put, List.setIfInBounds_toArray, List.set_cons_zero, List.set_cons_succ, List.getElem_toArray, List.getElem_cons_succ, List.getElem_cons_zero]
      refine wpAnyT_done (by kernel_rfl) ?_ _
      go_wp2_with fail
      exact ⟨⟨i + 1, by omega, by go_num, rfl, (hof.below (Below.refl _ _).drew).below hB1⟩, by simp [intOf]; omega⟩
    · have d1 : decide ((i : Int) < (ym : Int)) = false := decide_eq_false (by omega)
      have d1' : decide (i < ym) = false := decide_eq_false hlt
      have f0 := hof.below (Below.refl _ _).drew
      have hs : ∀ W, FSt ea w k1 o1 k2 o2 b1 b2 vb v ⟨yk, yn, ys, yp, ym, yc⟩ W → W.cell? ⟨b1, 0, none⟩ = some (.int .i64 k1) ∧ W.cell? ⟨b1, 1, none⟩ = some (.int .i64 o1) ∧ W.cell? ⟨vb, 0, none⟩ = some (.int .i64 yk) ∧ W.cell? ⟨vb, 1, none⟩ = some (.int .i64 yn) ∧ W.cell? ⟨vb, 2, none⟩ = some (.string ys) ∧ W.cell? ⟨vb, 3, none⟩ = some (.slice yp ym yc) := fun W h => by
        obtain ⟨g1, g2, g3, g4, c0, c1, c2, c3⟩ := h.facts
        exact ⟨g1, g2, c0, c1, c2, c3⟩
      have hS1 := hs _ f0
      have HS := Lib.hid hs
      clear hs
      go_wp2_with fail
      clear hof HFIT HT1 HT2 HIT
      refine wp_region_T (fun W : World => W.cell? ⟨b1, 0, none⟩ = some (.int .i64 k1) ∧ W.cell? ⟨b1, 1, none⟩ = some (.int .i64 o1) ∧ W.cell? ⟨vb, 0, none⟩ = some (.int .i64 yk) ∧ W.cell? ⟨vb, 1, none⟩ = some (.int .i64 yn) ∧ W.cell? ⟨vb, 2, none⟩ = some (.string ys) ∧ W.cell? ⟨vb, 3, none⟩ = some (.slice yp ym yc)) (fun j => j == 12 || j == 13 || j == 14) (by kernel_rfl) ?_
      refine wpAnyT_take (i := 0) (v := ?vb0) rfl (by kernel_rfl) (by kernel_rfl) (by kernel_rfl) (by kernel_rfl) (by kernel_rfl) (fun _ _ _ h => h) (Or.inl ⟨by rfl, ?yb0⟩) (hS1) ?rb0
      case yb0 => (intro w hSw; (try dsimp only at hSw); go_simp; try with_reducible rfl)
      try simp only [Act.put, List.setIfInBounds_toArray, List.set_cons_zero, List.set_cons_succ, List.getElem_toArray, List.getElem_cons_succ, List.getElem_cons_zero]
      refine wpAnyT_take (i := 1) (v := ?vb1) rfl (by kernel_rfl) (by kernel_rfl) (by kernel_rfl) (by kernel_rfl) (by kernel_rfl) (fun _ _ _ h => h) (Or.inl ⟨by rfl, ?yb1⟩) (hS1) ?rb1
      case yb1 => (intro w hSw; (try dsimp only at hSw); go_simp; try with_reducible rfl)
      try simp only [Act.put, List.setIfInBounds_toArray, List.set_cons_zero, List.set_cons_succ, List.getElem_toArray, List.getElem_cons_succ, List.getElem_cons_zero]
      refine wpAnyT_run (i := 2) (by kernel_rfl) rfl (fun K hK => ?_)
      go_simp
      (refine (HF1.out _ f0.v.at' f0.ok.t).mono ?_; rintro e W1 ⟨rfl, hB1⟩)
      have f1 := f0.below hB1
      go_wp2_with fail
      refine hK.out _ _ (fun _ => HS.out _ f1) ?_
      clear hK K
      try simp only [Act.put, List.setIfInBounds_toArray, List.set_cons_zero, List.set_cons_succ, List.getElem_toArray, List.getElem_cons_succ, List.getElem_cons_zero]
      refine wpAnyT_take (i := 3) (v := ?vb3) rfl (by kernel_rfl) (by kernel_rfl) (by kernel_rfl) (by kernel_rfl) (by kernel_rfl) (fun _ _ _ h => h) (Or.inl ⟨by rfl, ?yb3⟩) (HS.out _ f1) ?rb3
      case yb3 => (intro w hSw; (try dsimp only at hSw); go_simp; try with_reducible rfl)
      try simp only [Act.put, List.setIfInBounds_toArray, List.set_cons_zero, List.set_cons_succ, List.getElem_toArray, List.getElem_cons_succ, List.getElem_cons_zero]
      refine wpAnyT_take (i := 4) (v := ?vb4) rfl (by kernel_rfl) (by kernel_rfl) (by kernel_rfl) (by kernel_rfl) (by kernel_rfl) (fun _ _ _ h => h) (Or.inl ⟨by rfl, ?yb4⟩) (HS.out _ f1) ?rb4
      case yb4 => (intro w hSw; (try dsimp only at hSw); go_simp; try with_reducible rfl)
      try simp only [Act.put, List.setIfInBounds_toArray, List.set_cons_zero, List.set_cons_succ, List.getElem_toArray, List.getElem_cons_succ, List.getElem_cons_zero]
      refine wpAnyT_take (i := 5) (v := ?vb5) rfl (by kernel_rfl) (by kernel_rfl) (by kernel_rfl) (by kernel_rfl) (by kernel_rfl) (fun _ _ _ h => h) (Or.inl ⟨by rfl, ?yb5⟩) (HS.out _ f1) ?rb5
      case yb5 => (intro w hSw; (try dsimp only at hSw); go_simp; try with_reducible rfl)
      try simp only [Act.put, List.setIfInBounds_toArray, List.set_cons_zero, List.set_cons_succ, List.getElem_toArray, List.getElem_cons_succ, List.getElem_cons_zero]
      refine wpAnyT_take (i := 6) (v := ?vb6) rfl (by kernel_rfl) (by kernel_rfl) (by kernel_rfl) (by kernel_rfl) (by kernel_rfl) (fun _ _ _ h => h) (Or.inl ⟨by rfl, ?yb6⟩) (HS.out _ f1) ?rb6
      case yb6 => (intro w hSw; (try dsimp only at hSw); go_simp; try with_reducible rfl)
      try simp only [Act.put, List.setIfInBounds_toArray, List.set_cons_zero, List.set_cons_succ, List.getElem_toArray, List.getElem_cons_succ, List.getElem_cons_zero]
      refine wpAnyT_take (i := 7) (v := ?vb7) rfl (by kernel_rfl) (by kernel_rfl) (by kernel_rfl) (by kernel_rfl) (by kernel_rfl) (fun _ _ _ h => h) (Or.inl ⟨by rfl, ?yb7⟩) (HS.out _ f1) ?rb7
      case yb7 => (intro w hSw; (try dsimp only at hSw); go_simp; try with_reducible rfl)
      try simp only [Act.put, List.setIfInBounds_toArray, List.set_cons_zero, List.set_cons_succ, List.getElem_toArray, List.getElem_cons_succ, List.getElem_cons_zero]
      refine wpAnyT_take (i := 8) (v := ?vb8) rfl (by kernel_rfl) (by kernel_rfl) (by kernel_rfl) (by kernel_rfl) (by kernel_rfl) (fun _ _ _ h => h) (Or.inl ⟨by rfl, ?yb8⟩) (HS.out _ f1) ?rb8
      case yb8 => (intro w hSw; (try dsimp only at hSw); go_simp; try with_reducible rfl)
      try simp only [Act.put, List.setIfInBounds_toArray, List.set_cons_zero, List.set_cons_succ, List.getElem_toArray, List.getElem_cons_succ, List.getElem_cons_zero]
      refine wpAnyT_take (i := 9) (v := ?vb9) rfl (by kernel_rfl) (by kernel_rfl) (by kernel_rfl) (by kernel_rfl) (by kernel_rfl) (fun _ _ _ h => h) (Or.inl ⟨by rfl, ?yb9⟩) (HS.out _ f1) ?rb9
      case yb9 => (intro w hSw; (try dsimp only at hSw); go_simp; try with_reducible rfl)
      try simp only [Act.put, List.setIfInBounds_toArray, List.set_cons_zero, List.set_cons_succ, List.getElem_toArray, List.getElem_cons_succ, List.getElem_cons_zero]
      refine wpAnyT_take (i := 11) (v := ?vb11) rfl (by kernel_rfl) (by kernel_rfl) (by kernel_rfl) (by kernel_rfl) (by kernel_rfl) (fun _ _ _ h => h) (Or.inl ⟨by rfl, ?yb11⟩) (HS.out _ f1) ?rb11
      case yb11 => (intro w hSw; (try dsimp only at hSw); go_simp; try with_reducible rfl)
      try simp only [Act.put, List.setIfInBounds_toArray, List.set_cons_zero, List.set_cons_succ, List.getElem_toArray, List.getElem_cons_succ, List.getElem_cons_zero]
      refine wpAnyT_run (i := 10) (by kernel_rfl) rfl (fun K hK => ?_)
      go_simp
      (refine (HZ.out _).mono ?_; rintro e W2 ⟨rfl, hB2⟩)
      have f2 := f1.below hB2
      go_wp2_with fail
      refine hK.out _ _ (fun _ => HS.out _ f2) ?_
      clear hK K
      try simp only [Act.put, List.setIfInBounds_toArray, List.set_cons_zero, List.set_cons_succ, List.getElem_toArray, List.getElem_cons_succ, List.getElem_cons_zero]
      refine wpAnyT_run (i := 12) (by kernel_rfl) rfl (fun K hK => ?_)
      go_simp
      (refine (HFZ.out _ f2.ok.t).mono ?_; rintro e W3 ⟨rfl, hB3⟩)
      have f3 := f2.below hB3
      go_wp2_with fail
      refine hK.out _ _ (fun h => absurd h (by decide)) ?_
      clear hK K
      try simp only [Act.put, List.setIfInBounds_toArray, List.set_cons_zero, List.set_cons_succ, List.getElem_toArray, List.getElem_cons_succ, List.getElem_cons_zero]
      refine wpAnyT_pure (i := 13) (v := ?vb13) rfl (by kernel_rfl) rfl (by kernel_rfl) (by kernel_rfl) (fun _ _ _ h => h) (Or.inl ⟨by rfl, ?yb13⟩) ?rb13
      case yb13 => (intro w hSw; clear hSw; go_simp; try with_reducible rfl)
      try simp only [Act.put, List.setIfInBounds_toArray, List.set_cons_zero, List.set_cons_succ, List.getElem_toArray, List.getElem_cons_succ, List.getElem_cons_zero]
      refine wpAnyT_pure (i := 14) (v := ?vb14) rfl (by kernel_rfl) rfl (by kernel_rfl) (by kernel_rfl) (fun _ _ _ h => h) (Or.inl ⟨by rfl, ?yb14⟩) ?rb14
      case yb14 => (intro w hSw; clear hSw; go_simp; try with_reducible rfl)
      try simp only [Act.put, List.setIfInBounds_toArray, List.set_cons_zero, List.set_cons_succ, List.getElem_toArray, List.getElem_cons_succ, List.getElem_cons_zero]
      refine wpAnyT_done (by kernel_rfl) ?_ _
      obtain ⟨g1, g2, g3, g4, c0, c1, c2, c3⟩ := f3.facts
      simp only at c0 c1 c2 c3
      have hfin : Below w.heap.size w W3 := f3.ok.b
      clear f0 f1 f2 f3 hS1 hB1 hB2 hB3 HS
      by_cases hk : k1 = k2
      · subst hk
        have dne : (k1 != k1) = false := by simp
        by_cases h5 : k1 = 5
        · subst h5
          by_cases ho : o1 = o2
          · have hot := HEQ2.out rfl ho
            subst hot
            subst ho
            go_wp2_with fail
            go_ret
            exact ⟨rfl, hfin⟩
          · cases ot with
            | false =>
              go_wp2_with fail
              go_ret
              exact ⟨rfl, hfin⟩
            | true =>
              go_wp2_with fail
              go_ret
              exact ⟨rfl, hfin⟩
        · have ho := HEQ.out rfl h5
          have hot := HEQ2.out rfl ho
          subst hot
          subst ho
          have d5 : (k1 == 5) = false := beq_eq_false_iff_ne.2 h5
          by_cases e3 : k1 = 3
          · subst e3
            go_wp2_with fail
            go_ret
            exact ⟨rfl, hfin⟩
          · have d3 : (k1 == 3) = false := beq_eq_false_iff_ne.2 e3
            by_cases e4 : k1 = 4
            · subst e4
              go_wp2_with fail
              go_ret
              exact ⟨rfl, hfin⟩
            · have d4 : (k1 == 4) = false := beq_eq_false_iff_ne.2 e4
              go_wp2_with fail
              go_ret
              exact ⟨rfl, hfin⟩
      · have dne : (k1 != k2) = true := by simp [hk]
        have hot := HOTH.out hk
        by_cases e1 : k1 = 3 ∨ k1 = 4
        · by_cases e2 : k2 = 3 ∨ k2 = 4
          · by_cases ez : yk = 0
            · subst ez
              rcases e1 with rfl | rfl <;> rcases e2 with rfl | rfl
              all_goals first | exact absurd rfl hk | skip
              all_goals
                obtain rfl : ot = true := hot
                go_wp2_with fail
                go_ret
                exact ⟨rfl, hfin⟩
            · have dz : (yk == 0) = false := beq_eq_false_iff_ne.2 ez
              rcases e1 with rfl | rfl <;> rcases e2 with rfl | rfl
              all_goals first | exact absurd rfl hk | skip
              all_goals
                rw [dz, Bool.and_false] at hot
                subst hot
                go_wp2_with fail
                go_ret
                exact ⟨rfl, hfin⟩
          · have n3 : (k2 == 3) = false := beq_eq_false_iff_ne.2 (fun h => e2 (.inl h))
            have n4 : (k2 == 4) = false := beq_eq_false_iff_ne.2 (fun h => e2 (.inr h))
            rw [n3, n4, Bool.or_false, Bool.and_false, Bool.false_and] at hot
            subst hot
            rcases e1 with rfl | rfl
            all_goals
              go_wp2_with fail
              go_ret
              exact ⟨rfl, hfin⟩
        · have m3 : (k1 == 3) = false := beq_eq_false_iff_ne.2 (fun h => e1 (.inl h))
          have m4 : (k1 == 4) = false := beq_eq_false_iff_ne.2 (fun h => e1 (.inr h))
          rw [m3, m4, Bool.or_false, Bool.false_and, Bool.false_and] at hot
          subst hot
          go_wp2_with fail
          go_ret
          exact ⟨rfl, hfin⟩
end Go.Proofs.YtbmfclankoblfaaDoor

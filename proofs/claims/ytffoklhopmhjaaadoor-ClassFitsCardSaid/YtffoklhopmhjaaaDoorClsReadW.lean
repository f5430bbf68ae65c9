/- class.read. -/
import Derived.Test.YtffoklhopmhjaaaDoorClsRead
set_option linter.unusedSimpArgs false
set_option linter.unusedVariables false
namespace Go.Proofs.YtffoklhopmhjaaaDoor
open Go Go.RowKit Go.Shelf Go.Sort

theorem infoFld : (Tryd.prog.info? 53).map (fun i => (i.zero, i.size, i.bytes)) = some (some (.agg #[.string ⟨#[]⟩, .int .i64 0, .int .i64 0, .bool false]), 4, 40) := by kernel_rfl
abbrev textFnR (R : Nat) : Value := .func (.func 36) #[.pointer (some ⟨R, 0, none⟩)] #[]
abbrev numFnR (R : Nat) : Value := .func (.func 37) #[.pointer (some ⟨R, 0, none⟩)] #[]
/-- what read answers -/
def readCPost (w0 : World) (ea : Addr) (s : ByteArray) (R : Nat) (nm : ByteArray) (res : Bool × List Fl × Option Nat) (W : World) (e : Ending) (W' : World) : Prop :=
  Kept R W W' ∧ RrO w0 ea s R res.2.2 W' ∧ ∃ (cn : ByteArray) (q : Option Addr) (m c : Nat), e = .returned (.tuple #[clV cn q m c, .bool res.1]) ∧ (res.1 = true → cn = nm ∧ FLies W' q m c res.2.1)
theorem loopS_succ (s : ByteArray) (n : Nat) (acc : List Fl) (o : Option Nat) : loopS s (n + 1) acc o = if (stepF s o).2.1 = 0 then loopS s n (acc ++ [(stepF s o).1]) (stepF s o).2.2
      else if (stepF s o).2.1 = 1 then loopS s n (acc ++ [{ (stepF s o).1 with ix := true }]) (stepF s o).2.2
      else (false, acc, (stepF s o).2.2) := rfl
theorem loop_stop {s : ByteArray} {n : Nat} {acc : List Fl} {o : Option Nat} {f : Fl} {x : Int} {o' : Option Nat} (h : stepF s o = (f, x, o')) (h0 : x ≠ 0) (h1 : x ≠ 1) : loopS s (n + 1) acc o = (false, acc, o') := by
  rw [loopS_succ, h]
  simp only
  rw [if_neg h0, if_neg h1]
theorem loop_go {s : ByteArray} {n : Nat} {acc : List Fl} {o : Option Nat} {f : Fl} {x : Int} {o' : Option Nat} (h : stepF s o = (f, x, o')) (hx : x = 0 ∨ x = 1) (hf : f.ix = false) : loopS s (n + 1) acc o = loopS s n (acc ++ [{ f with ix := x == 1 }]) o' := by
  rw [loopS_succ, h]
  simp only
  rcases hx with rfl | rfl
  · rw [if_pos rfl]
    obtain ⟨a, b, c, d⟩ := f
    simp only at hf
    subst hf
    rfl
  · rw [if_neg (by decide), if_pos rfl]; rfl

theorem read_fin {w0 : World} {ea : Addr} {s : ByteArray} {R : Nat} {W0 : World} {C : Nat} {nm : ByteArray} {fs : List Fl} {vp : Option Addr} {vc : Nat} {o : Option Nat} {W : World} (h : ReadSt w0 ea s R W0 C nm fs vp vc o W) (nm' : ByteArray) (q : Option Addr) (m c : Nat) :
    Kept R W0 ((W.setCell ⟨W0.heap.size, 0, none⟩ (.string nm')).setCell ⟨W0.heap.size, 1, none⟩ (.slice q m c)) ∧ RrO w0 ea s R o ((W.setCell ⟨W0.heap.size, 0, none⟩ (.string nm')).setCell ⟨W0.heap.size, 1, none⟩ (.slice q m c)) ∧ CBox ((W.setCell ⟨W0.heap.size, 0, none⟩ (.string nm')).setCell ⟨W0.heap.size, 1, none⟩ (.slice q m c)) W0.heap.size nm' q m c := by
  have h1 := h.hR
  have h2 := h.lw
  have g1 := set_grown W W0.heap.size 0 (.string nm')
  have g2 := set_grown (W.setCell ⟨W0.heap.size, 0, none⟩ (.string nm')) W0.heap.size 1 (.slice q m c)
  have hb1 := below_grown h.rd.b0 g1 (by omega)
  have hr1 := h.rd.kept hb1 (g1.block R h.rd.lt (fun e => by have := Option.some.inj e; omega))
  exact ⟨kept_grown (kept_grown h.kept g1 (fun b e => by have := Option.some.inj e; omega)) g2 (fun b e => by have := Option.some.inj e; omega), hr1.kept (below_grown hb1 g2 (by omega)) (g2.block R hr1.lt (fun e => by have := Option.some.inj e; omega)), (h.out.set0 nm').set1 q m c⟩
theorem read_lies {w0 : World} {ea : Addr} {s : ByteArray} {R : Nat} {W0 : World} {C : Nat} {nm : ByteArray} {fs : List Fl} {vp : Option Addr} {vc : Nat} {o : Option Nat} {W : World} (h : ReadSt w0 ea s R W0 C nm fs vp vc o W) (nm' : ByteArray) (q : Option Addr) (m c : Nat) :
    FLies ((W.setCell ⟨W0.heap.size, 0, none⟩ (.string nm')).setCell ⟨W0.heap.size, 1, none⟩ (.slice q m c)) vp fs.length vc fs := by
  have h2 := h.hC
  have g1 := set_grown W W0.heap.size 0 (.string nm')
  have g2 := set_grown (W.setCell ⟨W0.heap.size, 0, none⟩ (.string nm')) W0.heap.size 1 (.slice q m c)
  have o1 := h.own.kept g1 (own_not h.own (by omega))
  exact ⟨rfl, Lies.own (o1.kept g2 (own_not o1 (by omega)))⟩

set_option maxHeartbeats 8000000 in
set_option maxRecDepth 100000 in
theorem clsRead_any (w0 : World) (ea : Addr) (s : ByteArray) (R : Nat) (o : Option Nat) (W : World) (h : RrO w0 ea s R o W) (hlw : w0.heap.size ≤ R) :
    Calls Tryd.prog 35 #[textFnR R, numFnR R] W (readCPost w0 ea s R ⟨(textS s o).1.toArray⟩ (clsRun s o) W) := by
  obtain ⟨i0, hi, hz0, hz1, hz2⟩ := info_parts infoFld
  have hRl := h.lt
  rcases ht0 : textS s o with ⟨t0, o1⟩
  rcases hn0 : numS s o1 with ⟨n0, o2⟩
  have hrun : clsRun s o = if n0 < 0 ∨ 8 < n0 then (false, [], o2) else loopS s n0.toNat [] o2 := by
    unfold clsRun
    rw [ht0]
    simp only
    rw [hn0]
  generalize clsRun s o = res at hrun ⊢
  simp only
  have hb : Below W.heap.size W (W.alloc (.cells #[.string ⟨#[]⟩, .slice none 0 0] 27)) := (Below.refl _ _).alloc (Nat.le_refl _) _
  have hT := rdText_any w0 ea s R o _ (h.below hb)
  unfold textRPost at hT
  rw [ht0] at hT
  simp only at hT
  generalize (⟨t0.toArray⟩ : ByteArray) = nm at hT ⊢
  have hA := CBox.new W ⟨#[]⟩ none 0 0
  have HA := Lib.hid hA
  have HB := Lib.hid hb
  have HT := Lib.hid hT
  have HRUN := Lib.hid hrun
  clear hA hb hT hrun h ht0
  go_enter Tryd.func35, Tryd.ntmps35
  go_wp2_with fail
  refine HT.out.mono ?_
  rintro e W1 ⟨rfl, hr1, hk1⟩
  have hzw : W.heap.size + 1 ≤ W1.heap.size := by have := hk1.size; simpa using this
  have hS : ReadSt w0 ea s R W W1.heap.size nm [] none 0 o1 (W1.alloc (.cells #[.string nm, .slice none 0 0] 27)) :=
    ⟨hlw, hRl, by omega, (HA.out.grown hk1 (fun e => by have := Option.some.inj e; omega)).alloc _, CBox.new _ _ _ _ _, World.ownsRow_nil _ _ _ _, hr1.below ((Below.refl _ _).alloc (Nat.le_refl _) _),
      ((Kept.below (Kept.refl R W) HB.out).trans hk1).below ((Below.refl _ _).alloc (Nat.le_refl _) _)⟩
  have HS1 := Lib.hid hS
  clear hS hr1 hk1 HA HB HT
  go_wp2_with fail
  generalize W1.alloc (.cells #[.string nm, .slice none 0 0] 27) = U1 at HS1 ⊢
  generalize W1.heap.size = C at HS1 hzw ⊢
  have hN := rdNum_any w0 ea s R o1 U1 HS1.out.rd
  unfold numRPost at hN
  rw [hn0] at hN
  simp only at hN
  refine hN.mono ?_
  rintro e W2 ⟨rfl, hr2, hk2⟩
  have HS2 := Lib.hid (HS1.out.call hr2 hk2)
  clear hr2 hk2 hN HS1 hn0
  obtain ⟨g0, g1⟩ := HS2.out.out.facts
  obtain ⟨g2, g3⟩ := HS2.out.out.free
  by_cases hbad : n0 < 0 ∨ 8 < n0
  · have hres : res = (false, [], o2) := by rw [HRUN.out, if_pos hbad]
    have hfin : Kept R W ((W2.setCell ⟨W.heap.size, 0, none⟩ (.string ⟨#[]⟩)).setCell ⟨W.heap.size, 1, none⟩ (.slice none 0 0)) ∧ RrO w0 ea s R o2 ((W2.setCell ⟨W.heap.size, 0, none⟩ (.string ⟨#[]⟩)).setCell ⟨W.heap.size, 1, none⟩ (.slice none 0 0)) ∧ CBox ((W2.setCell ⟨W.heap.size, 0, none⟩ (.string ⟨#[]⟩)).setCell ⟨W.heap.size, 1, none⟩ (.slice none 0 0)) W.heap.size ⟨#[]⟩ none 0 0 := read_fin HS2.out ⟨#[]⟩ none 0 0
    have HRES := Lib.hid hres
    have HFIN := Lib.hid hfin
    clear hres hfin
    by_cases h1 : n0 < 0
    · have d1 : decide (n0 < 0) = true := decide_eq_true h1
      go_wp2_with fail
      have hf := HFIN.out
      generalize ((W2.setCell ⟨W.heap.size, 0, none⟩ (.string ⟨#[]⟩)).setCell ⟨W.heap.size, 1, none⟩ (.slice none 0 0)) = W9 at hf ⊢
      obtain ⟨x0, x1⟩ := hf.2.2.facts
      exact bodyPost_ret (v := .tuple #[clV ⟨#[]⟩ none 0 0, .bool false]) (by simp [results, Tryd.results35, go_sem, x0, x1]) rfl ⟨hf.1, by rw [HRES.out]; exact hf.2.1, ⟨#[]⟩, none, 0, 0, by rw [HRES.out], fun e => by rw [HRES.out] at e; cases e⟩
    · have d1 : decide (n0 < 0) = false := decide_eq_false h1
      have h2 : 8 < n0 := by omega
      have d2 : decide (8 < n0) = true := decide_eq_true h2
      go_wp2_with fail
      have hf := HFIN.out
      generalize ((W2.setCell ⟨W.heap.size, 0, none⟩ (.string ⟨#[]⟩)).setCell ⟨W.heap.size, 1, none⟩ (.slice none 0 0)) = W9 at hf ⊢
      obtain ⟨x0, x1⟩ := hf.2.2.facts
      exact bodyPost_ret (v := .tuple #[clV ⟨#[]⟩ none 0 0, .bool false]) (by simp [results, Tryd.results35, go_sem, x0, x1]) rfl ⟨hf.1, by rw [HRES.out]; exact hf.2.1, ⟨#[]⟩, none, 0, 0, by rw [HRES.out], fun e => by rw [HRES.out] at e; cases e⟩
  · have hres : res = loopS s n0.toNat [] o2 := by rw [HRUN.out, if_neg hbad]
    obtain ⟨N, hN⟩ : ∃ N : Nat, n0 = (N : Int) := ⟨n0.toNat, by omega⟩
    subst hN
    rw [Int.toNat_natCast] at hres
    have hN8 : N ≤ 8 := by omega
    have d1 : decide ((N : Int) < 0) = false := decide_eq_false (by omega)
    have d2 : decide ((8 : Int) < (N : Int)) = false := decide_eq_false (by omega)
    have d1' : ¬ (N : Int) < 0 := by omega
    have d2' : ¬ (8 : Int) < (N : Int) := by omega
    have HRES := Lib.hid hres
    clear hres HRUN hbad g0 g1 g2 g3
    go_wp2_with fail
    go_loopw [23] (fun i wr => ∃ (k : Nat) (fs : List Fl) (vp : Option Addr) (vc : Nat) (o : Option Nat), k ≤ N ∧ i = .int .i64 (k : Int) ∧ fs.length = k ∧ res = loopS s (N - k) fs o ∧ ReadSt w0 ea s R W C nm fs vp vc o wr) (fun i _ => N - (intOf i).toNat)
    case atStart => exact ⟨0, [], none, 0, o2, by omega, rfl, rfl, HRES.out, HS2.out⟩
    case round =>
      obtain ⟨k, fs, vp, vc, o, hk, rfl, hfk, hres, hSt⟩ := hrel
      clear HS2 HRES
      by_cases hlt : k < N
      · have e1 : decide ((k : Int) < (N : Int)) = true := decide_eq_true (by omega)
        have e1' : (k : Int) < (N : Int) := by omega
        rcases ht : textS s o with ⟨t, o1⟩
        rcases hn1 : numS s o1 with ⟨kk, o2⟩
        rcases hn2 : numS s o2 with ⟨oo, o3⟩
        rcases hn3 : numS s o3 with ⟨xx, o4⟩
        have hstep : stepF s o = (⟨⟨t.toArray⟩, kk, oo, false⟩, xx, o4) := by
          unfold stepF
          simp only [ht, hn1, hn2, hn3]
        have hkn : N - k = (N - (k + 1)) + 1 := by omega
        rw [hkn] at hres
        have hstop := fun h0 h1 => hres.trans (loop_stop (n := N - (k + 1)) (acc := fs) hstep h0 h1)
        have hgo := fun hx => hres.trans (loop_go (n := N - (k + 1)) (acc := fs) hstep hx rfl)
        have hT := rdText_any w0 ea s R o _ hSt.rd
        unfold textRPost at hT
        rw [ht] at hT
        simp only at hT
        have hN1 := fun W' (h : RrO w0 ea s R o1 W') => rdNum_any w0 ea s R o1 W' h
        have hN2 := fun W' (h : RrO w0 ea s R o2 W') => rdNum_any w0 ea s R o2 W' h
        have hN3 := fun W' (h : RrO w0 ea s R o3 W') => rdNum_any w0 ea s R o3 W' h
        unfold numRPost at hN1 hN2 hN3
        rw [hn1] at hN1
        rw [hn2] at hN2
        rw [hn3] at hN3
        simp only at hN1 hN2 hN3
        have HSTOP := Lib.hid hstop
        have HGO := Lib.hid hgo
        have HT := Lib.hid hT
        have HN1 := Lib.hid hN1
        have HN2 := Lib.hid hN2
        have HN3 := Lib.hid hN3
        have S0 := Lib.hid hSt
        have HFK := Lib.hid hfk
        clear hstop hgo hT hN1 hN2 hN3 hSt hres hstep ht hn1 hn2 hn3 hkn hfk
        generalize (⟨t.toArray⟩ : ByteArray) = fn at *
        go_wp2_with fail
        refine HT.out.mono ?_
        rintro e X1 ⟨rfl, hr, hk⟩
        have S1 := Lib.hid (S0.out.call hr hk)
        clear hr hk S0 HT
        go_wp2_with fail
        refine (HN1.out _ S1.out.rd).mono ?_
        rintro e X2 ⟨rfl, hr, hk⟩
        have S2 := Lib.hid (S1.out.call hr hk)
        clear hr hk S1 HN1
        go_wp2_with fail
        refine (HN2.out _ S2.out.rd).mono ?_
        rintro e X3 ⟨rfl, hr, hk⟩
        have S3 := Lib.hid (S2.out.call hr hk)
        clear hr hk S2 HN2
        have S4 := Lib.hid (S3.out.alloc (.cells #[.string fn, .int .i64 kk, .int .i64 oo, .bool false] 53))
        have F4 := Lib.hid (FBox.new X3 ⟨fn, kk, oo, false⟩)
        have hzx : W.heap.size < X3.heap.size ∧ C < X3.heap.size ∧ R < X3.heap.size := ⟨by have := S3.out.out.lt; omega, S3.out.box.lt, S3.out.rd.lt⟩
        have hob : ∀ g, Value.ownBlock (.slice vp fs.length vc) = some g → g < X3.heap.size := fun g hg => (S3.out.own.lt g hg).2
        have HOB := Lib.hid hob
        clear hob S3
        go_wp2_with fail
        generalize X3.alloc (.cells #[.string fn, .int .i64 kk, .int .i64 oo, .bool false] 53) = X4 at S4 F4 ⊢
        generalize X3.heap.size = bf at F4 hzx HOB ⊢
        refine (HN3.out _ S4.out.rd).mono ?_
        rintro e X5 ⟨rfl, hr, hk⟩
        have S5 := Lib.hid (S4.out.call hr hk)
        have F5 := Lib.hid (F4.out.grown hk (fun e => by have := Option.some.inj e; omega))
        clear hr hk S4 HN3 F4
        by_cases hx : xx = 0 ∨ xx = 1
        · have hgo := HGO.out hx
          have HGO2 := Lib.hid hgo
          clear hgo HSTOP HGO
          have S6 := Lib.hid (S5.out.set bf 3 (.bool (xx == 1)) (by omega) (by omega) HOB.out)
          have F6 := Lib.hid (F5.out.set3 (xx == 1))
          obtain ⟨y0, y1, y2, y3⟩ := F5.out.facts
          have yf := F5.out.free
          obtain ⟨u0, u1, u2, u3⟩ := F6.out.facts
          simp only at y0 y1 y2 y3 u0 u1 u2 u3
          obtain ⟨c0, c1⟩ := S6.out.box.facts
          obtain ⟨c2, c3⟩ := S6.out.box.free
          have hown := S6.out.own
          have hC := S6.out.hC
          have hfl : fs.length ≤ 8 := by have := HFK.out; omega
          have HOWN := Lib.hid hown
          clear hown
          generalize hb1 : (xx == 1) = bx at *
          have dx : decide (xx = 0 ∨ xx = 1) = true := decide_eq_true hx
          rcases hx with rfl | rfl
          · have q1 : bx = false := by rw [← hb1]; rfl
            subst q1
            have hbx := F5.out.lt
            have S7 := Lib.hid (S6.out.alloc (.cells #[.string fn, .int .i64 kk, .int .i64 oo, .bool false] 53))
            go_wp2_with (at_builtin; refine wpList_append_lies _ rfl _ _ _ rfl (C + 1) 53 i0 _ 4 40 Tryd.underlying25 hi hz0 hz1 hz2 rfl (by omega) _ fs.length _ rfl (HOWN.out.alloc _) ⟨X5.heap.size, 0, none⟩ 1 1 [.string fn, .int .i64 kk, .int .i64 oo, .bool false] rfl rfl (World.news_of_block (cs := #[.string fn, .int .i64 kk, .int .i64 oo, .bool false]) (t := 53) (fr := (0, 0)) (by have h := World.alloc_heap_new (X5.setCell ⟨bf, 3, none⟩ (.bool false)) (.cells #[.string fn, .int .i64 kk, .int .i64 oo, .bool false] 53); rw [show (X5.setCell ⟨bf, 3, none⟩ (.bool false)).heap.size = X5.heap.size from by simp] at h; exact h)) (by simp [Value.oneCell']) (by omega) (by simp [maxLen] <;> omega) (by omega) (by simp <;> omega) (X5.heap.size + 1) (by simp) ?_; intro gg cap w2 hown1 hgrow hat hlt2; have hgo := S7.out.own.lt; have hB2 := S7.out.box.grown hgrow (fun e => by have := (hgo C e.symm).1; omega); obtain ⟨c4, c5⟩ := hB2.facts; obtain ⟨c6, c7⟩ := hB2.free)
            exact ⟨⟨k + 1, fs ++ [⟨fn, kk, oo, false⟩], some ⟨gg, 0, none⟩, cap, o4, by omega, by go_num, by rw [List.length_append, HFK.out]; rfl, HGO2.out, S7.out.more hgrow (by rw [flCells_append]; exact hown1)⟩, by simp [intOf]; omega⟩
          · have q1 : bx = true := by rw [← hb1]; rfl
            subst q1
            have hbx := F5.out.lt
            have S7 := Lib.hid (S6.out.alloc (.cells #[.string fn, .int .i64 kk, .int .i64 oo, .bool true] 53))
            go_wp2_with (at_builtin; refine wpList_append_lies _ rfl _ _ _ rfl (C + 1) 53 i0 _ 4 40 Tryd.underlying25 hi hz0 hz1 hz2 rfl (by omega) _ fs.length _ rfl (HOWN.out.alloc _) ⟨X5.heap.size, 0, none⟩ 1 1 [.string fn, .int .i64 kk, .int .i64 oo, .bool true] rfl rfl (World.news_of_block (cs := #[.string fn, .int .i64 kk, .int .i64 oo, .bool true]) (t := 53) (fr := (0, 0)) (by have h := World.alloc_heap_new (X5.setCell ⟨bf, 3, none⟩ (.bool true)) (.cells #[.string fn, .int .i64 kk, .int .i64 oo, .bool true] 53); rw [show (X5.setCell ⟨bf, 3, none⟩ (.bool true)).heap.size = X5.heap.size from by simp] at h; exact h)) (by simp [Value.oneCell']) (by omega) (by simp [maxLen] <;> omega) (by omega) (by simp <;> omega) (X5.heap.size + 1) (by simp) ?_; intro gg cap w2 hown1 hgrow hat hlt2; have hgo := S7.out.own.lt; have hB2 := S7.out.box.grown hgrow (fun e => by have := (hgo C e.symm).1; omega); obtain ⟨c4, c5⟩ := hB2.facts; obtain ⟨c6, c7⟩ := hB2.free)
            exact ⟨⟨k + 1, fs ++ [⟨fn, kk, oo, true⟩], some ⟨gg, 0, none⟩, cap, o4, by omega, by go_num, by rw [List.length_append, HFK.out]; rfl, HGO2.out, S7.out.more hgrow (by rw [flCells_append]; exact hown1)⟩, by simp [intOf]; omega⟩
        · have hstop := HSTOP.out (fun e => hx (.inl e)) (fun e => hx (.inr e))
          have q0 : (xx != 0) = true := by rw [bne_iff_ne]; exact fun e => hx (.inl e)
          have q1 : (xx != 1) = true := by rw [bne_iff_ne]; exact fun e => hx (.inr e)
          have HSTOP2 := Lib.hid hstop
          have hfin : Kept R W ((X5.setCell ⟨W.heap.size, 0, none⟩ (.string ⟨#[]⟩)).setCell ⟨W.heap.size, 1, none⟩ (.slice none 0 0)) ∧ RrO w0 ea s R o4 ((X5.setCell ⟨W.heap.size, 0, none⟩ (.string ⟨#[]⟩)).setCell ⟨W.heap.size, 1, none⟩ (.slice none 0 0)) ∧ CBox ((X5.setCell ⟨W.heap.size, 0, none⟩ (.string ⟨#[]⟩)).setCell ⟨W.heap.size, 1, none⟩ (.slice none 0 0)) W.heap.size ⟨#[]⟩ none 0 0 := read_fin S5.out ⟨#[]⟩ none 0 0
          have HFIN := Lib.hid hfin
          obtain ⟨g0, g1⟩ := S5.out.out.facts
          obtain ⟨g2, g3⟩ := S5.out.out.free
          clear hstop hfin HSTOP HGO hx
          go_wp2_with fail
          have hf := HFIN.out
          generalize ((X5.setCell ⟨W.heap.size, 0, none⟩ (.string ⟨#[]⟩)).setCell ⟨W.heap.size, 1, none⟩ (.slice none 0 0)) = W9 at hf ⊢
          obtain ⟨x0, x1⟩ := hf.2.2.facts
          exact bodyPost_ret (v := .tuple #[clV ⟨#[]⟩ none 0 0, .bool false]) (by simp [results, Tryd.results35, go_sem, x0, x1]) rfl ⟨hf.1, by rw [HSTOP2.out]; exact hf.2.1, ⟨#[]⟩, none, 0, 0, by rw [HSTOP2.out], fun e => by rw [HSTOP2.out] at e; cases e⟩
      · subst hfk
        obtain rfl : fs.length = N := by omega
        have e1 : decide ((fs.length : Int) < (fs.length : Int)) = false := decide_eq_false (by omega)
        have hres2 : res = (true, fs, o) := by rw [hres, Nat.sub_self]; rfl
        have HRES2 := Lib.hid hres2
        have SE := Lib.hid hSt
        obtain ⟨c0, c1⟩ := SE.out.box.facts
        obtain ⟨g0, g1⟩ := SE.out.out.facts
        obtain ⟨g2, g3⟩ := SE.out.out.free
        have hfin : Kept R W ((wr.setCell ⟨W.heap.size, 0, none⟩ (.string nm)).setCell ⟨W.heap.size, 1, none⟩ (.slice vp fs.length vc)) ∧ RrO w0 ea s R o ((wr.setCell ⟨W.heap.size, 0, none⟩ (.string nm)).setCell ⟨W.heap.size, 1, none⟩ (.slice vp fs.length vc)) ∧ CBox ((wr.setCell ⟨W.heap.size, 0, none⟩ (.string nm)).setCell ⟨W.heap.size, 1, none⟩ (.slice vp fs.length vc)) W.heap.size nm vp fs.length vc ∧ FLies ((wr.setCell ⟨W.heap.size, 0, none⟩ (.string nm)).setCell ⟨W.heap.size, 1, none⟩ (.slice vp fs.length vc)) vp fs.length vc fs := by
          obtain ⟨a, b, c⟩ := read_fin SE.out nm vp fs.length vc
          exact ⟨a, b, c, read_lies SE.out nm vp fs.length vc⟩
        have HFIN := Lib.hid hfin
        clear hres hres2 hSt hfin
        go_wp2_with fail
        have hf := HFIN.out
        generalize ((wr.setCell ⟨W.heap.size, 0, none⟩ (.string nm)).setCell ⟨W.heap.size, 1, none⟩ (.slice vp fs.length vc)) = W9 at hf ⊢
        obtain ⟨x0, x1⟩ := hf.2.2.1.facts
        exact bodyPost_ret (v := .tuple #[clV nm vp fs.length vc, .bool true]) (by simp [results, Tryd.results35, go_sem, x0, x1]) rfl ⟨hf.1, by rw [HRES2.out]; exact hf.2.1, nm, vp, fs.length, vc, by rw [HRES2.out], fun _ => ⟨rfl, by rw [HRES2.out]; exact hf.2.2.2⟩⟩
end Go.Proofs.YtffoklhopmhjaaaDoor

/- The walk of ValOrder. -/
import Derived.Deep.RegionHeld3
import Derived.Deep.CutBlock
import Derived.Deep.CutRange
import Derived.Test.YtbmfclankoblfaaDoorBun15
import Derived.Test.YtbmfclankoblfaaDoorBun16
import Derived.Test.YtbmfclankoblfaaDoorBun14
set_option linter.unusedSimpArgs false
set_option linter.unusedVariables false
namespace Go.Proofs.YtbmfclankoblfaaDoor
open Go Go.RowKit Go.Shelf

structure V2Box (W : World) (b : Nat) (v : V) (x : It) : Prop where
  box : VBox W b x.k x.n x.s (.slice x.p x.m x.c)
  at' : VAt 2 W v x
theorem V2Box.below {W W' : World} {b : Nat} {v : V} {x : It} (h : V2Box W b v x) (hb : Below W.heap.size W W') : V2Box W' b v x := ⟨h.box.below hb, h.at'.below hb⟩
theorem V2Box.alloc {W : World} {b : Nat} {v : V} {x : It} (h : V2Box W b v x) (o : Obj) : V2Box (W.alloc o) b v x := h.below ((Below.refl _ _).alloc (Nat.le_refl _) o)
theorem V2Box.new {W : World} {v : V} {x : It} (h : VAt 2 W v x) : V2Box (W.alloc (.cells #[.int .i64 x.k, .int .i64 x.n, .string x.s, .slice x.p x.m x.c] 28)) W.heap.size v x :=
  ⟨VBox.new _ _ _ _ _, h.below ((Below.refl _ _).alloc (Nat.le_refl _) _)⟩

theorem min_cut70 (s : ByteArray) : ∃ m : Nat, m ≤ s.size ∧ m ≤ 70 ∧ (if (70 : Int) < (s.size : Int) then (70 : Int) else (s.size : Int)) = (m : Int) ∧ min (s.size : Int) 70 = (m : Int) := by
  by_cases h : 70 < s.size
  · exact ⟨70, by omega, by omega, by rw [if_pos (by omega)]; rfl, by omega⟩
  · exact ⟨s.size, by omega, by omega, by rw [if_neg (by omega)], by omega⟩
theorem len_of_ok {v : V} (h : v.ok = true) : v.l.length ≤ 12 := by
  by_cases h5 : v.k = 5
  · exact (ok_list h h5).2.1
  · have := (flatOk_parts (ok_flat h h5)).2.2.1
    omega

/-- what lies behind the third value's making -/
def OrdSt (ea : Addr) (w : World) (x : Raw) (p : Option Addr) (c : Nat) (ba : Nat) (a : V) (A : It) (bb : Nat) (b : V) (B : It) (v : Value) (W : World) : Prop :=
  ∃ (bc : Nat) (u : V) (C : It), v = .pointer (some ⟨bc, 0, none⟩) ∧ Ok ea w W ∧ RawBox W w.heap.size x p c ∧ V2Box W ba a A ∧ V2Box W bb b B ∧ V2Box W bc u C
set_option maxHeartbeats 1500000 in
set_option maxRecDepth 100000 in
theorem valOrder_walk (x : Raw) (hx : x.fine) (p : Option Addr) (c : Nat) (y : Raw) (hy : y.fine) (p' : Option Addr) (c' : Nat) (z : Raw) (hz : z.fine) (p'' : Option Addr) (c'' : Nat)
    (which : Int) (hw1 : -9223372036854775808 ≤ which) (hw2 : which ≤ 9223372036854775807) (N : Int) (hn1 : -9223372036854775808 ≤ N) (hn2 : N ≤ 9223372036854775807) (s : ByteArray) (hs : s.size ≤ maxLen) (ea : Addr) (w : World) (hT : Tabs w) (hE : errLies ea w)
    (hL : Lies w (.slice p x.l.length c) x.l.length 3 (rawsCells x.l)) (hL' : Lies w (.slice p' y.l.length c') y.l.length 3 (rawsCells y.l)) (hL'' : Lies w (.slice p'' z.l.length c'') z.l.length 3 (rawsCells z.l)) :
    Calls Tryd.prog 5 #[rawV x p c, rawV y p' c', rawV z p'' c'', .int .i64 which, .int .i64 N, .string s] w fun e w' => e = .returned (.bool true) ∧ Below w.heap.size w w' := by
  have b1 : Below w.heap.size w (w.alloc (.cells (rawA x p c) 24)) := (Below.refl _ _).alloc (Nat.le_refl _) _
  have b2 : Below w.heap.size w ((w.alloc (.cells (rawA x p c) 24)).alloc (.cells (rawA y p' c') 24)) := b1.alloc b1.size _
  have O0 := ((Ok.alloc (Ok.alloc (ea := ea) (w := w) ⟨hT, hE, Below.refl _ _⟩ (.cells (rawA x p c) 24)) (.cells (rawA y p' c') 24))).alloc (.cells (rawA z p'' c'') 24)
  have R0 := ((RawBox.new w hx hL).alloc (.cells (rawA y p' c') 24)).alloc (.cells (rawA z p'' c'') 24)
  have Q0 := (RawBox.new (w.alloc (.cells (rawA x p c) 24)) hy (hL'.below b1)).alloc (.cells (rawA z p'' c'') 24)
  have Z0 := RawBox.new ((w.alloc (.cells (rawA x p c) 24)).alloc (.cells (rawA y p' c') 24)) hz (hL''.below b2)
  rw [World.size_alloc] at Q0
  rw [World.size_alloc, World.size_alloc] at Z0
  have hofa := fun W => valOf_any x hx p c W
  have hofb := fun W => valOf_any y hy p' c' W
  have hofc := fun W => valOf_any z hz p'' c'' W
  have hlc := len_of_ok (valOf_ok z)
  unfold valOfPost at hofa hofb hofc
  generalize valOf x = a at hofa
  generalize valOf y = b at hofb
  generalize valOf z = cc at hofc hlc
  obtain ⟨m, hm1, hm2, hm3, hm4⟩ := min_cut70 s
  have hodd : ∀ (W : World) (v : It), VAt 1 W cc v → Calls Tryd.prog 17 #[v.v, .int .i64 which, .int .i64 N, .string (s.extract 0 m)] W (oddPost v.p W) := fun W v h => odd_any cc v which N hw1 hw2 hn1 hn2 (s.extract 0 m) (by rw [ByteArray.size_extract]; omega) W h hlc
  have HOFA := Lib.hid hofa
  have HOFB := Lib.hid hofb
  have HOFC := Lib.hid hofc
  have HODD := Lib.hid hodd
  clear hofa hofb hofc hodd hT hE hL hL' hL'' b1 b2 hlc hx hy hz hs
  have h01 : w.heap.size ≠ w.heap.size + 1 := by omega
  have h02 : w.heap.size ≠ w.heap.size + 1 + 1 := by omega
  go_enter Tryd.func5, Tryd.ntmps5
  go_wp2_with fail
  refine (awake_any ea _ O0.t O0.e).mono ?_
  rintro e W1 ⟨rfl, hB⟩
  have O1 := O0.below hB
  have R1 := R0.below hB
  have Q1 := Lib.hid (Q0.below hB)
  have Z1 := Lib.hid (Z0.below hB)
  clear hB O0 R0 Q0 Z0
  obtain ⟨r0, r1, r2, r3⟩ := R1.facts
  have R1 := Lib.hid R1
  go_wp2_with fail
  refine (HOFA.out _ R1.out.lies).mono ?_
  rintro e W2 ⟨⟨ak, an, az, ap, am, ac⟩, rfl, hv, hB, _⟩
  have A2 := Lib.hid (V2Box.new hv.up)
  have O2 := Lib.hid ((O1.below hB).alloc (.cells #[.int .i64 ak, .int .i64 an, .string az, .slice ap am ac] 28))
  have R2 := Lib.hid ((R1.out.below hB).alloc (.cells #[.int .i64 ak, .int .i64 an, .string az, .slice ap am ac] 28))
  have q2 := (Q1.out.below hB).alloc (.cells #[.int .i64 ak, .int .i64 an, .string az, .slice ap am ac] 28)
  have Z2 := Lib.hid ((Z1.out.below hB).alloc (.cells #[.int .i64 ak, .int .i64 an, .string az, .slice ap am ac] 28))
  clear hB O1 R1 r0 r1 r2 r3 hv Q1 Z1
  obtain ⟨r0, r1, r2, r3⟩ := q2.facts
  have Q2 := Lib.hid q2
  clear q2
  go_wp2_with fail
  generalize W2.alloc (.cells #[.int .i64 ak, .int .i64 an, .string az, .slice ap am ac] 28) = U2 at A2 O2 R2 Q2 Z2 r0 r1 r2 r3 ⊢
  generalize W2.heap.size = ba at A2 ⊢
  refine (HOFB.out _ Q2.out.lies).mono ?_
  rintro e W3 ⟨⟨bk, bn, bz, bp, bm, bc⟩, rfl, hv, hB, _⟩
  have B3 := Lib.hid (V2Box.new hv.up)
  have O3 := Lib.hid ((O2.out.below hB).alloc (.cells #[.int .i64 bk, .int .i64 bn, .string bz, .slice bp bm bc] 28))
  have A3 := Lib.hid ((A2.out.below hB).alloc (.cells #[.int .i64 bk, .int .i64 bn, .string bz, .slice bp bm bc] 28))
  have R3 := Lib.hid ((R2.out.below hB).alloc (.cells #[.int .i64 bk, .int .i64 bn, .string bz, .slice bp bm bc] 28))
  have Z3 := Lib.hid ((Z2.out.below hB).alloc (.cells #[.int .i64 bk, .int .i64 bn, .string bz, .slice bp bm bc] 28))
  clear hB O2 A2 R2 Z2 r0 r1 r2 r3 hv Q2
  go_wp2_with fail
  generalize W3.alloc (.cells #[.int .i64 bk, .int .i64 bn, .string bz, .slice bp bm bc] 28) = U3 at A3 O3 B3 R3 Z3 ⊢
  generalize W3.heap.size = bb at B3 ⊢
  obtain ⟨r0, r1, r2, r3⟩ := Z3.out.facts
  have hzz := Z3.out.box.lt
  have hsw : ∀ W W' : World, (W.cell? ⟨w.heap.size + 1 + 1, 0, none⟩ = some (.int .i64 z.k) ∧ W.cell? ⟨w.heap.size + 1 + 1, 1, none⟩ = some (.int .i64 z.n) ∧ W.cell? ⟨w.heap.size + 1 + 1, 2, none⟩ = some (.string z.s) ∧ W.cell? ⟨w.heap.size + 1 + 1, 3, none⟩ = some (.slice p'' z.l.length c'') ∧ w.heap.size + 1 + 1 < W.heap.size) → Below W.heap.size W W' → (W'.cell? ⟨w.heap.size + 1 + 1, 0, none⟩ = some (.int .i64 z.k) ∧ W'.cell? ⟨w.heap.size + 1 + 1, 1, none⟩ = some (.int .i64 z.n) ∧ W'.cell? ⟨w.heap.size + 1 + 1, 2, none⟩ = some (.string z.s) ∧ W'.cell? ⟨w.heap.size + 1 + 1, 3, none⟩ = some (.slice p'' z.l.length c'') ∧ w.heap.size + 1 + 1 < W'.heap.size) := by
    rintro W W' ⟨a1, a2, a3, a4, a5⟩ hB
    have g : ∀ (q : Addr) (v : Value), q.block < W.heap.size → W.cell? q = some v → W'.cell? q = some v := fun q v hq hv => (hB.cell hq).trans hv
    exact ⟨g _ _ a5 a1, g _ _ a5 a2, g _ _ a5 a3, g _ _ a5 a4, by have := hB.size; omega⟩
  have hS1 := hsw U3 U3.drew ⟨r0, r1, r2, r3, hzz⟩ (Below.refl _ _).drew
  have hzd : U3.drew.heap.size = U3.heap.size := rfl
  have HSW := Lib.hid hsw
  clear hsw
  have O3d := Lib.hid (O3.out.below (Below.refl _ _).drew)
  have A3d := Lib.hid (A3.out.below (Below.refl _ _).drew)
  have B3d := Lib.hid (B3.out.below (Below.refl _ _).drew)
  have R3d := Lib.hid (R3.out.below (Below.refl _ _).drew)
  have Z3d := Lib.hid (Z3.out.below (Below.refl _ _).drew)
  clear O3 A3 B3 R3 Z3
  go_cut [16] from 25 to 34 (fun v16 wx => OrdSt ea w x p c ba a ⟨ak, an, az, ap, am, ac⟩ bb b ⟨bk, bn, bz, bp, bm, bc⟩ v16 wx)
  case first =>
    refine wp_region_T (fun W : World => W.cell? ⟨w.heap.size + 1 + 1, 0, none⟩ = some (.int .i64 z.k) ∧ W.cell? ⟨w.heap.size + 1 + 1, 1, none⟩ = some (.int .i64 z.n) ∧ W.cell? ⟨w.heap.size + 1 + 1, 2, none⟩ = some (.string z.s) ∧ W.cell? ⟨w.heap.size + 1 + 1, 3, none⟩ = some (.slice p'' z.l.length c'') ∧ w.heap.size + 1 + 1 < W.heap.size) (fun j => j == 11) (by kernel_rfl) ?_
    refine wpAnyT_take (i := 0) (v := ?v0) rfl (by kernel_rfl) (by kernel_rfl) (by kernel_rfl) (by kernel_rfl) (by kernel_rfl) (fun _ _ _ h => h) (Or.inl ⟨by rfl, ?y0⟩) hS1 ?r0
    case y0 => (intro w hSw; (try dsimp only at hSw); go_simp; try with_reducible rfl)
    try simp only [Act.put, List.setIfInBounds_toArray, List.set_cons_zero, List.set_cons_succ, List.getElem_toArray, List.getElem_cons_succ, List.getElem_cons_zero]
    refine wpAnyT_take (i := 2) (v := ?v2) rfl (by kernel_rfl) (by kernel_rfl) (by kernel_rfl) (by kernel_rfl) (by kernel_rfl) (fun _ _ _ h => h) (Or.inl ⟨by rfl, ?y2⟩) hS1 ?r2
    case y2 => (intro w hSw; (try dsimp only at hSw); go_simp; try with_reducible rfl)
    try simp only [Act.put, List.setIfInBounds_toArray, List.set_cons_zero, List.set_cons_succ, List.getElem_toArray, List.getElem_cons_succ, List.getElem_cons_zero]
    refine wpAnyT_take (i := 3) (v := ?v3) rfl (by kernel_rfl) (by kernel_rfl) (by kernel_rfl) (by kernel_rfl) (by kernel_rfl) (fun _ _ _ h => h) (Or.inl ⟨by rfl, ?y3⟩) hS1 ?r3
    case y3 => (intro w hSw; (try dsimp only at hSw); go_simp; try with_reducible rfl)
    try simp only [Act.put, List.setIfInBounds_toArray, List.set_cons_zero, List.set_cons_succ, List.getElem_toArray, List.getElem_cons_succ, List.getElem_cons_zero]
    refine wpAnyT_take (i := 4) (v := ?v4) rfl (by kernel_rfl) (by kernel_rfl) (by kernel_rfl) (by kernel_rfl) (by kernel_rfl) (fun _ _ _ h => h) (Or.inl ⟨by rfl, ?y4⟩) hS1 ?r4
    case y4 => (intro w hSw; (try dsimp only at hSw); go_simp; try with_reducible rfl)
    try simp only [Act.put, List.setIfInBounds_toArray, List.set_cons_zero, List.set_cons_succ, List.getElem_toArray, List.getElem_cons_succ, List.getElem_cons_zero]
    refine wpAnyT_take (i := 5) (v := ?v5) rfl (by kernel_rfl) (by kernel_rfl) (by kernel_rfl) (by kernel_rfl) (by kernel_rfl) (fun _ _ _ h => h) (Or.inl ⟨by rfl, ?y5⟩) hS1 ?r5
    case y5 => (intro w hSw; (try dsimp only at hSw); go_simp; try with_reducible rfl)
    try simp only [Act.put, List.setIfInBounds_toArray, List.set_cons_zero, List.set_cons_succ, List.getElem_toArray, List.getElem_cons_succ, List.getElem_cons_zero]
    refine wpAnyT_take (i := 6) (v := ?v6) rfl (by kernel_rfl) (by kernel_rfl) (by kernel_rfl) (by kernel_rfl) (by kernel_rfl) (fun _ _ _ h => h) (Or.inl ⟨by rfl, ?y6⟩) hS1 ?r6
    case y6 => (intro w hSw; (try dsimp only at hSw); go_simp; try with_reducible rfl)
    try simp only [Act.put, List.setIfInBounds_toArray, List.set_cons_zero, List.set_cons_succ, List.getElem_toArray, List.getElem_cons_succ, List.getElem_cons_zero]
    refine wpAnyT_take (i := 7) (v := ?v7) rfl (by kernel_rfl) (by kernel_rfl) (by kernel_rfl) (by kernel_rfl) (by kernel_rfl) (fun _ _ _ h => h) (Or.inl ⟨by rfl, ?y7⟩) hS1 ?r7
    case y7 => (intro w hSw; (try dsimp only at hSw); go_simp; try with_reducible rfl)
    try simp only [Act.put, List.setIfInBounds_toArray, List.set_cons_zero, List.set_cons_succ, List.getElem_toArray, List.getElem_cons_succ, List.getElem_cons_zero]
    refine wpAnyT_take (i := 8) (v := ?v8) rfl (by kernel_rfl) (by kernel_rfl) (by kernel_rfl) (by kernel_rfl) (by kernel_rfl) (fun _ _ _ h => h) (Or.inl ⟨by rfl, ?y8⟩) hS1 ?r8
    case y8 => (intro w hSw; (try dsimp only at hSw); go_simp; try with_reducible rfl)
    try simp only [Act.put, List.setIfInBounds_toArray, List.set_cons_zero, List.set_cons_succ, List.getElem_toArray, List.getElem_cons_succ, List.getElem_cons_zero]
    refine wpAnyT_two (i := 1) (j := 10) (by kernel_rfl) rfl rfl (fun K hK => ?_) (fun K hK => ?_)
    · go_simp
      (refine (HOFC.out _ (Z3d.out.lies)).mono ?_; rintro e W4 ⟨⟨zk, zn, zz, zp, zm, zc⟩, rfl, hv, hB4, hf4⟩)
      go_wp2_with fail
      refine hK.out _ _ (fun _ => HSW.out _ _ hS1 hB4) ?_
      clear hK K
      try simp only [Act.put, List.setIfInBounds_toArray, List.set_cons_zero, List.set_cons_succ, List.getElem_toArray, List.getElem_cons_succ, List.getElem_cons_zero]
      refine wpAnyT_two (i := 9) (j := 10) (by kernel_rfl) rfl rfl (fun K hK => ?_) (fun K hK => ?_)
      · have hS2 := HSW.out _ _ hS1 hB4
        go_simp
        (refine (HODD.out _ ⟨zk, zn, zz, zp, zm, zc⟩ (hv)).mono ?_; rintro e W5 ⟨u, ⟨ck, cn, cz, cp, cm, cc2⟩, rfl, hu, hB5, hput⟩)
        go_wp2_with fail
        refine hK.out _ _ (fun _ => HSW.out _ _ hS2 hB5) ?_
        clear hK K
        try simp only [Act.put, List.setIfInBounds_toArray, List.set_cons_zero, List.set_cons_succ, List.getElem_toArray, List.getElem_cons_succ, List.getElem_cons_zero]
        have hS3 := HSW.out _ _ hS2 hB5
        refine wpAnyT_run (i := 10) (by kernel_rfl) rfl (fun K hK => ?_)
        go_simp
        refine hK.out _ _ (fun _ => HSW.out _ _ hS3 ((Below.refl _ _).alloc (Nat.le_refl _) _)) ?_
        clear hK K
        try simp only [Act.put, List.setIfInBounds_toArray, List.set_cons_zero, List.set_cons_succ, List.getElem_toArray, List.getElem_cons_succ, List.getElem_cons_zero]
        refine wpAnyT_run (i := 11) (by kernel_rfl) rfl (fun K hK => ?_)
        go_simp
        refine hK.out _ _ (fun h => absurd h (by decide)) ?_
        clear hK K
        try simp only [Act.put, List.setIfInBounds_toArray, List.set_cons_zero, List.set_cons_succ, List.getElem_toArray, List.getElem_cons_succ, List.getElem_cons_zero]
        refine wpAnyT_done (by kernel_rfl) ?_ _
        have hFin : Below U3.drew.heap.size U3.drew (W5.alloc (.cells #[.int .i64 ck, .int .i64 cn, .string cz, .slice cp cm cc2] 28)) := (hB4.trans (hB5.mono hB4.size)).alloc (hB4.trans (hB5.mono hB4.size)).size _
        have hC : V2Box (W5.alloc (.cells #[.int .i64 ck, .int .i64 cn, .string cz, .slice cp cm cc2] 28)) W5.heap.size u ⟨ck, cn, cz, cp, cm, cc2⟩ := ⟨VBox.new _ _ _ _ _, hu.below ((Below.refl _ _).alloc (Nat.le_refl _) _)⟩
        have hO9 := O3d.out.below hFin
        have hR9 := R3d.out.below hFin
        have hA9 := A3d.out.below hFin
        have hB9 := B3d.out.below hFin
        generalize (W5.alloc (.cells #[.int .i64 ck, .int .i64 cn, .string cz, .slice cp cm cc2] 28)) = W9 at hC hO9 hR9 hA9 hB9 ⊢
        go_wp2_with fail
        go_meet
        exact ⟨_, u, _, rfl, hO9, hR9, hA9, hB9, hC⟩
      · have hS2 := HSW.out _ _ hS1 hB4
        have hS3 := HSW.out _ _ hS2 ((Below.refl _ _).alloc (Nat.le_refl _) (.cells #[.int .i64 0, .int .i64 0, .string ⟨#[]⟩, .slice none 0 0] 28))
        go_simp
        refine hK.out _ _ (fun _ => hS3) ?_
        clear hK K
        try simp only [Act.put, List.setIfInBounds_toArray, List.set_cons_zero, List.set_cons_succ, List.getElem_toArray, List.getElem_cons_succ, List.getElem_cons_zero]
        refine wpAnyT_run (i := 9) (by kernel_rfl) rfl (fun K hK => ?_)
        go_simp
        (refine (HODD.out _ ⟨zk, zn, zz, zp, zm, zc⟩ (hv.below ((Below.refl _ _).alloc (Nat.le_refl _) _))).mono ?_; rintro e W5 ⟨u, ⟨ck, cn, cz, cp, cm, cc2⟩, rfl, hu, hB5, hput⟩)
        go_wp2_with fail
        refine hK.out _ _ (fun _ => HSW.out _ _ hS3 hB5) ?_
        clear hK K
        try simp only [Act.put, List.setIfInBounds_toArray, List.set_cons_zero, List.set_cons_succ, List.getElem_toArray, List.getElem_cons_succ, List.getElem_cons_zero]
        have hbF : VBox W5 W4.heap.size 0 0 ⟨#[]⟩ (.slice none 0 0) := VBox.below (VBox.new W4 0 0 ⟨#[]⟩ (.slice none 0 0)) hB5
        obtain ⟨⟨s0, s1, s2, s3⟩, t0, t1, t2, t3⟩ := hbF.facts
        refine wpAnyT_run (i := 11) (by kernel_rfl) rfl (fun K hK => ?_)
        go_simp
        refine hK.out _ _ (fun h => absurd h (by decide)) ?_
        clear hK K
        try simp only [Act.put, List.setIfInBounds_toArray, List.set_cons_zero, List.set_cons_succ, List.getElem_toArray, List.getElem_cons_succ, List.getElem_cons_zero]
        have hz45 := hB4.size
        have hB45 := (hB4.alloc hB4.size _).trans (hB5.mono (by simp; omega))
        refine wpAnyT_done (by kernel_rfl) ?_ _
        have hFin : Below U3.drew.heap.size U3.drew ((((W5.setCell ⟨W4.heap.size, 0, none⟩ (.int .i64 ck)).setCell ⟨W4.heap.size, 1, none⟩ (.int .i64 cn)).setCell ⟨W4.heap.size, 2, none⟩ (.string cz)).setCell ⟨W4.heap.size, 3, none⟩ (.slice cp cm cc2)) := below_put hB45 hz45 ck cn cz (.slice cp cm cc2)
        have hC : V2Box ((((W5.setCell ⟨W4.heap.size, 0, none⟩ (.int .i64 ck)).setCell ⟨W4.heap.size, 1, none⟩ (.int .i64 cn)).setCell ⟨W4.heap.size, 2, none⟩ (.string cz)).setCell ⟨W4.heap.size, 3, none⟩ (.slice cp cm cc2)) W4.heap.size u ⟨ck, cn, cz, cp, cm, cc2⟩ := ⟨hbF.put ck cn cz (.slice cp cm cc2), hput W4.heap.size (by simp) (fun a ha => by have := hf4 a ha; omega) ck cn cz (.slice cp cm cc2)⟩
        have hO9 := O3d.out.below hFin
        have hR9 := R3d.out.below hFin
        have hA9 := A3d.out.below hFin
        have hB9 := B3d.out.below hFin
        generalize ((((W5.setCell ⟨W4.heap.size, 0, none⟩ (.int .i64 ck)).setCell ⟨W4.heap.size, 1, none⟩ (.int .i64 cn)).setCell ⟨W4.heap.size, 2, none⟩ (.string cz)).setCell ⟨W4.heap.size, 3, none⟩ (.slice cp cm cc2)) = W9 at hC hO9 hR9 hA9 hB9 ⊢
        go_wp2_with fail
        go_meet
        exact ⟨_, u, _, rfl, hO9, hR9, hA9, hB9, hC⟩
    · have hS2 := HSW.out _ _ hS1 ((Below.refl _ _).alloc (Nat.le_refl _) (.cells #[.int .i64 0, .int .i64 0, .string ⟨#[]⟩, .slice none 0 0] 28))
      go_simp
      refine hK.out _ _ (fun _ => hS2) ?_
      clear hK K
      try simp only [Act.put, List.setIfInBounds_toArray, List.set_cons_zero, List.set_cons_succ, List.getElem_toArray, List.getElem_cons_succ, List.getElem_cons_zero]
      refine wpAnyT_run (i := 1) (by kernel_rfl) rfl (fun K hK => ?_)
      go_simp
      (refine (HOFC.out _ ((Z3d.out.alloc _).lies)).mono ?_; rintro e W4 ⟨⟨zk, zn, zz, zp, zm, zc⟩, rfl, hv, hB4, hf4⟩)
      go_wp2_with fail
      refine hK.out _ _ (fun _ => HSW.out _ _ hS2 hB4) ?_
      clear hK K
      try simp only [Act.put, List.setIfInBounds_toArray, List.set_cons_zero, List.set_cons_succ, List.getElem_toArray, List.getElem_cons_succ, List.getElem_cons_zero]
      have hS3 := HSW.out _ _ hS2 hB4
      refine wpAnyT_run (i := 9) (by kernel_rfl) rfl (fun K hK => ?_)
      go_simp
      (refine (HODD.out _ ⟨zk, zn, zz, zp, zm, zc⟩ (hv)).mono ?_; rintro e W5 ⟨u, ⟨ck, cn, cz, cp, cm, cc2⟩, rfl, hu, hB5, hput⟩)
      go_wp2_with fail
      refine hK.out _ _ (fun _ => HSW.out _ _ hS3 hB5) ?_
      clear hK K
      try simp only [Act.put, List.setIfInBounds_toArray, List.set_cons_zero, List.set_cons_succ, List.getElem_toArray, List.getElem_cons_succ, List.getElem_cons_zero]
      have hbF : VBox W5 U3.heap.size 0 0 ⟨#[]⟩ (.slice none 0 0) := (VBox.below (VBox.new U3.drew 0 0 ⟨#[]⟩ (.slice none 0 0)) hB4).below hB5
      obtain ⟨⟨s0, s1, s2, s3⟩, t0, t1, t2, t3⟩ := hbF.facts
      refine wpAnyT_run (i := 11) (by kernel_rfl) rfl (fun K hK => ?_)
      go_simp
      refine hK.out _ _ (fun h => absurd h (by decide)) ?_
      clear hK K
      try simp only [Act.put, List.setIfInBounds_toArray, List.set_cons_zero, List.set_cons_succ, List.getElem_toArray, List.getElem_cons_succ, List.getElem_cons_zero]
      have hz4 := hB4.size
      rw [World.size_alloc] at hz4
      have hB45 := (((Below.refl U3.drew.heap.size U3.drew).alloc (Nat.le_refl _) (.cells #[.int .i64 0, .int .i64 0, .string ⟨#[]⟩, .slice none 0 0] 28)).trans (hB4.mono (by simp))).trans (hB5.mono (by show U3.heap.size ≤ W4.heap.size; have : U3.drew.heap.size = U3.heap.size := rfl; omega))
      refine wpAnyT_done (by kernel_rfl) ?_ _
      have hFin : Below U3.drew.heap.size U3.drew ((((W5.setCell ⟨U3.heap.size, 0, none⟩ (.int .i64 ck)).setCell ⟨U3.heap.size, 1, none⟩ (.int .i64 cn)).setCell ⟨U3.heap.size, 2, none⟩ (.string cz)).setCell ⟨U3.heap.size, 3, none⟩ (.slice cp cm cc2)) := below_put hB45 (Nat.le_refl _) ck cn cz (.slice cp cm cc2)
      have hC : V2Box ((((W5.setCell ⟨U3.heap.size, 0, none⟩ (.int .i64 ck)).setCell ⟨U3.heap.size, 1, none⟩ (.int .i64 cn)).setCell ⟨U3.heap.size, 2, none⟩ (.string cz)).setCell ⟨U3.heap.size, 3, none⟩ (.slice cp cm cc2)) U3.heap.size u ⟨ck, cn, cz, cp, cm, cc2⟩ := ⟨hbF.put ck cn cz (.slice cp cm cc2), hput U3.heap.size (by have : U3.drew.heap.size = U3.heap.size := rfl; omega) (fun a ha => by have := (hf4 a ha).1; rw [World.size_alloc] at this; have : U3.drew.heap.size = U3.heap.size := rfl; omega) ck cn cz (.slice cp cm cc2)⟩
      have hO9 := O3d.out.below hFin
      have hR9 := R3d.out.below hFin
      have hA9 := A3d.out.below hFin
      have hB9 := B3d.out.below hFin
      generalize ((((W5.setCell ⟨U3.heap.size, 0, none⟩ (.int .i64 ck)).setCell ⟨U3.heap.size, 1, none⟩ (.int .i64 cn)).setCell ⟨U3.heap.size, 2, none⟩ (.string cz)).setCell ⟨U3.heap.size, 3, none⟩ (.slice cp cm cc2)) = W9 at hC hO9 hR9 hA9 hB9 ⊢
      go_wp2_with fail
      go_meet
      exact ⟨_, u, _, rfl, hO9, hR9, hA9, hB9, hC⟩
  case rest =>
    obtain ⟨bq, u, ⟨ck, cn, cz, cp, cm, cc2⟩, rfl, O5, R5, A5, B5, C5⟩ := hcut
    have oI := isOrd_cmpV 2
    have t1 := oI.trans a b u
    have t2 := oI.trans u b a
    have l1 := oI.lo a b
    have l2 := oI.hi a b
    have l3 := oI.lo b u
    have l4 := oI.hi b u
    have l5 := oI.lo a u
    have l6 := oI.hi a u
    have cAB := fun (W : World) (h : VAt 2 W a ⟨ak, an, az, ap, am, ac⟩) (h' : VAt 2 W b ⟨bk, bn, bz, bp, bm, bc⟩) => compare_any 2 a b ⟨ak, an, az, ap, am, ac⟩ ⟨bk, bn, bz, bp, bm, bc⟩ W h h'
    have cBC := fun (W : World) (h : VAt 2 W b ⟨bk, bn, bz, bp, bm, bc⟩) (h' : VAt 2 W u ⟨ck, cn, cz, cp, cm, cc2⟩) => compare_any 2 b u ⟨bk, bn, bz, bp, bm, bc⟩ ⟨ck, cn, cz, cp, cm, cc2⟩ W h h'
    have cAC := fun (W : World) (h : VAt 2 W a ⟨ak, an, az, ap, am, ac⟩) (h' : VAt 2 W u ⟨ck, cn, cz, cp, cm, cc2⟩) => compare_any 2 a u ⟨ak, an, az, ap, am, ac⟩ ⟨ck, cn, cz, cp, cm, cc2⟩ W h h'
    have cBA := fun (W : World) (h : VAt 2 W b ⟨bk, bn, bz, bp, bm, bc⟩) (h' : VAt 2 W a ⟨ak, an, az, ap, am, ac⟩) => compare_any 2 b a ⟨bk, bn, bz, bp, bm, bc⟩ ⟨ak, an, az, ap, am, ac⟩ W h h'
    have cCB := fun (W : World) (h : VAt 2 W u ⟨ck, cn, cz, cp, cm, cc2⟩) (h' : VAt 2 W b ⟨bk, bn, bz, bp, bm, bc⟩) => compare_any 2 u b ⟨ck, cn, cz, cp, cm, cc2⟩ ⟨bk, bn, bz, bp, bm, bc⟩ W h h'
    have cCA := fun (W : World) (h : VAt 2 W u ⟨ck, cn, cz, cp, cm, cc2⟩) (h' : VAt 2 W a ⟨ak, an, az, ap, am, ac⟩) => compare_any 2 u a ⟨ck, cn, cz, cp, cm, cc2⟩ ⟨ak, an, az, ap, am, ac⟩ W h h'
    have cCC := fun (W : World) (h : VAt 2 W u ⟨ck, cn, cz, cp, cm, cc2⟩) (h' : VAt 2 W u ⟨ck, cn, cz, cp, cm, cc2⟩) => compare_any 2 u u ⟨ck, cn, cz, cp, cm, cc2⟩ ⟨ck, cn, cz, cp, cm, cc2⟩ W h h'
    have sAB := fun (W : World) (h : VAt 2 W a ⟨ak, an, az, ap, am, ac⟩) (h' : VAt 2 W b ⟨bk, bn, bz, bp, bm, bc⟩) => same_any 2 a b ⟨ak, an, az, ap, am, ac⟩ ⟨bk, bn, bz, bp, bm, bc⟩ W h h'
    have sAC := fun (W : World) (h : VAt 2 W a ⟨ak, an, az, ap, am, ac⟩) (h' : VAt 2 W u ⟨ck, cn, cz, cp, cm, cc2⟩) => same_any 2 a u ⟨ak, an, az, ap, am, ac⟩ ⟨ck, cn, cz, cp, cm, cc2⟩ W h h'
    have sAA := fun (W : World) (y : It) (h : VAt 2 W a ⟨ak, an, az, ap, am, ac⟩) (h' : VAt 2 W a y) => same_any 2 a a ⟨ak, an, az, ap, am, ac⟩ y W h h'
    rw [cmpV_self] at cCC sAA
    rw [oI.anti b a] at cBA t2
    rw [oI.anti u b] at cCB t2
    rw [oI.anti u a] at cCA t2
    generalize cmpV 2 a b = qab at cAB cBA sAB t1 t2 l1 l2
    generalize cmpV 2 b u = qbc at cBC cCB t1 t2 l3 l4
    generalize cmpV 2 a u = qac at cAC cCA sAC t1 t2 l5 l6
    have cAB := Lib.hid cAB
    have cBC := Lib.hid cBC
    have cAC := Lib.hid cAC
    have cBA := Lib.hid cBA
    have cCB := Lib.hid cCB
    have cCA := Lib.hid cCA
    have cCC := Lib.hid cCC
    have sAB := Lib.hid sAB
    have sAC := Lib.hid sAC
    have sAA := Lib.hid sAA
    have t1 := Lib.hid t1
    have t2 := Lib.hid t2
    have O5 := Lib.hid O5
    have R5 := Lib.hid R5
    have A5 := Lib.hid A5
    have B5 := Lib.hid B5
    have C5 := Lib.hid C5
    obtain ⟨⟨f0, f1, f2, f3⟩, _⟩ := A5.out.box.facts
    obtain ⟨⟨g0, g1, g2, g3⟩, _⟩ := B5.out.box.facts
    go_wp2_with fail
    refine (cAB.out _ A5.out.at' B5.out.at').mono ?_
    rintro e X6 ⟨rfl, hB⟩
    have O6 := Lib.hid (O5.out.below hB)
    have R6 := Lib.hid (R5.out.below hB)
    have A6 := Lib.hid (A5.out.below hB)
    have B6 := Lib.hid (B5.out.below hB)
    have C6 := Lib.hid (C5.out.below hB)
    clear hB f0 f1 f2 f3 g0 g1 g2 g3 O5 R5 A5 B5 C5
    obtain ⟨⟨f0, f1, f2, f3⟩, _⟩ := B6.out.box.facts
    obtain ⟨⟨g0, g1, g2, g3⟩, _⟩ := C6.out.box.facts
    go_wp2_with fail
    refine (cBC.out _ B6.out.at' C6.out.at').mono ?_
    rintro e X7 ⟨rfl, hB⟩
    have O7 := Lib.hid (O6.out.below hB)
    have R7 := Lib.hid (R6.out.below hB)
    have A7 := Lib.hid (A6.out.below hB)
    have B7 := Lib.hid (B6.out.below hB)
    have C7 := Lib.hid (C6.out.below hB)
    clear hB f0 f1 f2 f3 g0 g1 g2 g3 O6 R6 A6 B6 C6
    obtain ⟨⟨f0, f1, f2, f3⟩, _⟩ := A7.out.box.facts
    obtain ⟨⟨g0, g1, g2, g3⟩, _⟩ := C7.out.box.facts
    go_wp2_with fail
    refine (cAC.out _ A7.out.at' C7.out.at').mono ?_
    rintro e X8 ⟨rfl, hB⟩
    have O8 := Lib.hid (O7.out.below hB)
    have R8 := Lib.hid (R7.out.below hB)
    have A8 := Lib.hid (A7.out.below hB)
    have B8 := Lib.hid (B7.out.below hB)
    have C8 := Lib.hid (C7.out.below hB)
    clear hB f0 f1 f2 f3 g0 g1 g2 g3 O7 R7 A7 B7 C7
    obtain ⟨⟨f0, f1, f2, f3⟩, _⟩ := B8.out.box.facts
    obtain ⟨⟨g0, g1, g2, g3⟩, _⟩ := A8.out.box.facts
    go_wp2_with fail
    refine (cBA.out _ B8.out.at' A8.out.at').mono ?_
    rintro e X9 ⟨rfl, hB⟩
    have O9 := Lib.hid (O8.out.below hB)
    have R9 := Lib.hid (R8.out.below hB)
    have A9 := Lib.hid (A8.out.below hB)
    have B9 := Lib.hid (B8.out.below hB)
    have C9 := Lib.hid (C8.out.below hB)
    clear hB f0 f1 f2 f3 g0 g1 g2 g3 O8 R8 A8 B8 C8
    obtain ⟨⟨f0, f1, f2, f3⟩, _⟩ := C9.out.box.facts
    obtain ⟨⟨g0, g1, g2, g3⟩, _⟩ := B9.out.box.facts
    go_wp2_with fail
    refine (cCB.out _ C9.out.at' B9.out.at').mono ?_
    rintro e X10 ⟨rfl, hB⟩
    have O10 := Lib.hid (O9.out.below hB)
    have R10 := Lib.hid (R9.out.below hB)
    have A10 := Lib.hid (A9.out.below hB)
    have B10 := Lib.hid (B9.out.below hB)
    have C10 := Lib.hid (C9.out.below hB)
    clear hB f0 f1 f2 f3 g0 g1 g2 g3 O9 R9 A9 B9 C9
    obtain ⟨⟨f0, f1, f2, f3⟩, _⟩ := C10.out.box.facts
    obtain ⟨⟨g0, g1, g2, g3⟩, _⟩ := A10.out.box.facts
    go_wp2_with fail
    refine (cCA.out _ C10.out.at' A10.out.at').mono ?_
    rintro e X11 ⟨rfl, hB⟩
    have O11 := Lib.hid (O10.out.below hB)
    have R11 := Lib.hid (R10.out.below hB)
    have A11 := Lib.hid (A10.out.below hB)
    have B11 := Lib.hid (B10.out.below hB)
    have C11 := Lib.hid (C10.out.below hB)
    clear hB f0 f1 f2 f3 g0 g1 g2 g3 O10 R10 A10 B10 C10
    go_upto_region 10 with (fail)
    go_cut [95] from 74 to 94 (fun v95 wx => v95 = .bool false ∧ X11 = wx)
    case first =>
      rcases Int.lt_trichotomy qab 0 with h1 | h1 | h1 <;> rcases Int.lt_trichotomy qbc 0 with h2 | h2 | h2
      all_goals
        (try have k1 : qac ≤ 0 := t1.out (by omega) (by omega))
        (try have k2 : 0 ≤ qac := by have := t2.out (by omega) (by omega); omega)
        (try subst h1)
        (try subst h2)
        go_wp2_with fail
        go_meet
        exact ⟨by first | rfl | exact congrArg Value.bool (decide_eq_false (by omega)) | exact congrArg Value.bool (by rw [decide_eq_false (show ¬ (0 : Int) < qac by omega), decide_eq_false (show ¬ qac < 0 by omega)]; rfl), rfl⟩
    case rest =>
      obtain ⟨rfl, rfl⟩ := hcut
      have hsw : ∀ W W' : World, (W.cell? ⟨w.heap.size, 0, none⟩ = some (.int .i64 x.k) ∧ W.cell? ⟨w.heap.size, 1, none⟩ = some (.int .i64 x.n) ∧ W.cell? ⟨w.heap.size, 2, none⟩ = some (.string x.s) ∧ W.cell? ⟨w.heap.size, 3, none⟩ = some (.slice p x.l.length c) ∧ W.cell? ⟨ba, 0, none⟩ = some (.int .i64 ak) ∧ W.cell? ⟨ba, 1, none⟩ = some (.int .i64 an) ∧ W.cell? ⟨ba, 2, none⟩ = some (.string az) ∧ W.cell? ⟨ba, 3, none⟩ = some (.slice ap am ac) ∧ W.cell? ⟨bb, 0, none⟩ = some (.int .i64 bk) ∧ W.cell? ⟨bb, 1, none⟩ = some (.int .i64 bn) ∧ W.cell? ⟨bb, 2, none⟩ = some (.string bz) ∧ W.cell? ⟨bb, 3, none⟩ = some (.slice bp bm bc) ∧ W.cell? ⟨bq, 0, none⟩ = some (.int .i64 ck) ∧ W.cell? ⟨bq, 1, none⟩ = some (.int .i64 cn) ∧ W.cell? ⟨bq, 2, none⟩ = some (.string cz) ∧ W.cell? ⟨bq, 3, none⟩ = some (.slice cp cm cc2) ∧ (w.heap.size < W.heap.size ∧ ba < W.heap.size ∧ bb < W.heap.size ∧ bq < W.heap.size)) → Below W.heap.size W W' → (W'.cell? ⟨w.heap.size, 0, none⟩ = some (.int .i64 x.k) ∧ W'.cell? ⟨w.heap.size, 1, none⟩ = some (.int .i64 x.n) ∧ W'.cell? ⟨w.heap.size, 2, none⟩ = some (.string x.s) ∧ W'.cell? ⟨w.heap.size, 3, none⟩ = some (.slice p x.l.length c) ∧ W'.cell? ⟨ba, 0, none⟩ = some (.int .i64 ak) ∧ W'.cell? ⟨ba, 1, none⟩ = some (.int .i64 an) ∧ W'.cell? ⟨ba, 2, none⟩ = some (.string az) ∧ W'.cell? ⟨ba, 3, none⟩ = some (.slice ap am ac) ∧ W'.cell? ⟨bb, 0, none⟩ = some (.int .i64 bk) ∧ W'.cell? ⟨bb, 1, none⟩ = some (.int .i64 bn) ∧ W'.cell? ⟨bb, 2, none⟩ = some (.string bz) ∧ W'.cell? ⟨bb, 3, none⟩ = some (.slice bp bm bc) ∧ W'.cell? ⟨bq, 0, none⟩ = some (.int .i64 ck) ∧ W'.cell? ⟨bq, 1, none⟩ = some (.int .i64 cn) ∧ W'.cell? ⟨bq, 2, none⟩ = some (.string cz) ∧ W'.cell? ⟨bq, 3, none⟩ = some (.slice cp cm cc2) ∧ (w.heap.size < W'.heap.size ∧ ba < W'.heap.size ∧ bb < W'.heap.size ∧ bq < W'.heap.size)) := by
        rintro W W' ⟨a0, a1, a2, a3, a4, a5, a6, a7, a8, a9, a10, a11, a12, a13, a14, a15, z0, z1, z2, z3⟩ hB
        have g : ∀ (q : Addr) (v : Value), q.block < W.heap.size → W.cell? q = some v → W'.cell? q = some v := fun q v hq hv => (hB.cell hq).trans hv
        have hs := hB.size
        exact ⟨g _ _ z0 a0, g _ _ z0 a1, g _ _ z0 a2, g _ _ z0 a3, g _ _ z1 a4, g _ _ z1 a5, g _ _ z1 a6, g _ _ z1 a7, g _ _ z2 a8, g _ _ z2 a9, g _ _ z2 a10, g _ _ z2 a11, g _ _ z3 a12, g _ _ z3 a13, g _ _ z3 a14, g _ _ z3 a15, by omega, by omega, by omega, by omega⟩
      have hS0 : X11.cell? ⟨w.heap.size, 0, none⟩ = some (.int .i64 x.k) ∧ X11.cell? ⟨w.heap.size, 1, none⟩ = some (.int .i64 x.n) ∧ X11.cell? ⟨w.heap.size, 2, none⟩ = some (.string x.s) ∧ X11.cell? ⟨w.heap.size, 3, none⟩ = some (.slice p x.l.length c) ∧ X11.cell? ⟨ba, 0, none⟩ = some (.int .i64 ak) ∧ X11.cell? ⟨ba, 1, none⟩ = some (.int .i64 an) ∧ X11.cell? ⟨ba, 2, none⟩ = some (.string az) ∧ X11.cell? ⟨ba, 3, none⟩ = some (.slice ap am ac) ∧ X11.cell? ⟨bb, 0, none⟩ = some (.int .i64 bk) ∧ X11.cell? ⟨bb, 1, none⟩ = some (.int .i64 bn) ∧ X11.cell? ⟨bb, 2, none⟩ = some (.string bz) ∧ X11.cell? ⟨bb, 3, none⟩ = some (.slice bp bm bc) ∧ X11.cell? ⟨bq, 0, none⟩ = some (.int .i64 ck) ∧ X11.cell? ⟨bq, 1, none⟩ = some (.int .i64 cn) ∧ X11.cell? ⟨bq, 2, none⟩ = some (.string cz) ∧ X11.cell? ⟨bq, 3, none⟩ = some (.slice cp cm cc2) ∧ (w.heap.size < X11.heap.size ∧ ba < X11.heap.size ∧ bb < X11.heap.size ∧ bq < X11.heap.size) := by
        obtain ⟨⟨a0, a1, a2, a3⟩, _⟩ := A11.out.box.facts
        obtain ⟨⟨b0, b1, b2, b3⟩, _⟩ := B11.out.box.facts
        obtain ⟨⟨d0, d1, d2, d3⟩, _⟩ := C11.out.box.facts
        obtain ⟨e0, e1, e2, e3⟩ := R11.out.facts
        exact ⟨e0, e1, e2, e3, a0, a1, a2, a3, b0, b1, b2, b3, d0, d1, d2, d3, R11.out.box.lt, A11.out.box.lt, B11.out.box.lt, C11.out.box.lt⟩
      have hS1 := hsw X11 X11.drew hS0 (Below.refl _ _).drew
      have hA : ∀ W, Below X11.drew.heap.size X11.drew W → VAt 2 W a ⟨ak, an, az, ap, am, ac⟩ := fun W h => (A11.out.at'.below (Below.refl _ _).drew).below h
      have hBb : ∀ W, Below X11.drew.heap.size X11.drew W → VAt 2 W b ⟨bk, bn, bz, bp, bm, bc⟩ := fun W h => (B11.out.at'.below (Below.refl _ _).drew).below h
      have hC : ∀ W, Below X11.drew.heap.size X11.drew W → VAt 2 W u ⟨ck, cn, cz, cp, cm, cc2⟩ := fun W h => (C11.out.at'.below (Below.refl _ _).drew).below h
      have hR : ∀ W, Below X11.drew.heap.size X11.drew W → Lies W (.slice p x.l.length c) x.l.length 3 (rawsCells x.l) := fun W h => (R11.out.lies.below (Below.refl _ _).drew).below h
      have hO : ∀ W, Below X11.drew.heap.size X11.drew W → Below w.heap.size w W := fun W h => ((O11.out.below (Below.refl _ _).drew).below h).b
      have HSW := Lib.hid hsw
      have HA := Lib.hid hA
      have HBb := Lib.hid hBb
      have HC := Lib.hid hC
      have HR := Lib.hid hR
      have HO := Lib.hid hO
      clear hsw hS0 hA hBb hC hR hO A11 B11 C11 R11 O11
      go_wp2_with fail
      go_region_held3 (fun W' : World => W'.cell? ⟨w.heap.size, 0, none⟩ = some (.int .i64 x.k) ∧ W'.cell? ⟨w.heap.size, 1, none⟩ = some (.int .i64 x.n) ∧ W'.cell? ⟨w.heap.size, 2, none⟩ = some (.string x.s) ∧ W'.cell? ⟨w.heap.size, 3, none⟩ = some (.slice p x.l.length c) ∧ W'.cell? ⟨ba, 0, none⟩ = some (.int .i64 ak) ∧ W'.cell? ⟨ba, 1, none⟩ = some (.int .i64 an) ∧ W'.cell? ⟨ba, 2, none⟩ = some (.string az) ∧ W'.cell? ⟨ba, 3, none⟩ = some (.slice ap am ac) ∧ W'.cell? ⟨bb, 0, none⟩ = some (.int .i64 bk) ∧ W'.cell? ⟨bb, 1, none⟩ = some (.int .i64 bn) ∧ W'.cell? ⟨bb, 2, none⟩ = some (.string bz) ∧ W'.cell? ⟨bb, 3, none⟩ = some (.slice bp bm bc) ∧ W'.cell? ⟨bq, 0, none⟩ = some (.int .i64 ck) ∧ W'.cell? ⟨bq, 1, none⟩ = some (.int .i64 cn) ∧ W'.cell? ⟨bq, 2, none⟩ = some (.string cz) ∧ W'.cell? ⟨bq, 3, none⟩ = some (.slice cp cm cc2) ∧ (w.heap.size < W'.heap.size ∧ ba < W'.heap.size ∧ bb < W'.heap.size ∧ bq < W'.heap.size))
        (first | assumption | (refine HSW.out _ _ (by assumption) ((Below.refl _ _).alloc (Nat.le_refl _) _)))
        (first
          | (go_at_call 19; (first
              | ((with_reducible refine (sAB.out _ (HA.out _ (Below.refl _ _)) (HBb.out _ (Below.refl _ _))).mono ?_); rintro e Y1 ⟨rfl, hY1⟩; have hS2 := HSW.out _ _ hS1 hY1)
              | ((with_reducible refine (sAC.out _ (HA.out _ hY1) (HC.out _ hY1)).mono ?_); rintro e Y2 ⟨rfl, hY2'⟩; have hY2 := hY1.trans (hY2'.mono hY1.size); have hS3 := HSW.out _ _ hS2 hY2')
              | ((with_reducible refine (sAA.out _ ⟨vk, vn, vs, vp, vm, vc⟩ (HA.out _ hY3) hv3.up).mono ?_); rintro e Y4 ⟨rfl, hY4'⟩; have hY4 := hY3.trans (hY4'.mono hY3.size); have hS5 := HSW.out _ _ hS4 hY4')))
          | (go_at_call 11; (refine (HOFA.out _ (HR.out _ hY2)).mono ?_); rintro e Y3 ⟨⟨vk, vn, vs, vp, vm, vc⟩, rfl, hv3, hY3', _⟩; have hY3 := hY2.trans (hY3'.mono hY2.size); have hS4 := HSW.out _ _ hS3 hY3')
          | (go_at_call 18; (refine (cCC.out _ (HC.out _ hY4) (HC.out _ hY4)).mono ?_); rintro e Y5 ⟨rfl, hY5'⟩; have hY5 := hY4.trans (hY5'.mono hY4.size); have hS6 := HSW.out _ _ hS5 hY5'))
      all_goals
        go_wp2_with fail
        go_ret
        exact ⟨rfl, HO.out _ hY5⟩
end Go.Proofs.YtbmfclankoblfaaDoor

/- The walk of ValRefs. -/
import Derived.Test.YtbmfclankoblfaaDoorValWrittenLawZ
import Derived.Test.YtbmfclankoblfaaDoorRefNumsZ
import Derived.Test.YtbmfclankoblfaaDoorOntoZ
import Derived.Test.YtbmfclankoblfaaDoorBun16
set_option linter.unusedSimpArgs false
set_option linter.unusedVariables false
namespace Go.Proofs.YtbmfclankoblfaaDoor
open Go Go.RowKit Go.Shelf

theorem pickK_take (kind : Int) (us : List V) (i : Nat) (h : i < us.length) : pickK kind (us.take (i + 1)) = pickK kind (us.take i) ++ (if (us[i].k == kind) = true then [us[i].n] else []) := by
  unfold pickK
  rw [List.take_succ_eq_append_getElem h, List.filter_append, List.map_append]
  congr 1
  rw [List.filter_cons]
  split <;> rfl
theorem pickK_len (kind : Int) (us : List V) : (pickK kind us).length ≤ us.length := by
  unfold pickK
  rw [List.length_map]
  exact List.length_filter_le _ _
theorem wrong_ok (a : V) (ha : a.ok = true) : (V.mk a.k 1152921504606846976 a.s a.l).ok = false := by
  cases h : (V.mk a.k 1152921504606846976 a.s a.l).ok with
  | false => rfl
  | true =>
    exfalso
    by_cases h5 : a.k = 5
    · have := (ok_list h h5).1
      have h1 : (1152921504606846976 : Int) = 0 := congrArg V.n this
      omega
    · have := (flatOk_parts (ok_flat h h5)).2.2.2
      have h2 : (V.mk a.k 1152921504606846976 a.s a.l).n = 1152921504606846976 := rfl
      rw [h2] at this
      omega
theorem wrong_nums (a : V) (ha : a.ok = true) (kind : Int) : numsOf kind (V.mk a.k 1152921504606846976 a.s a.l) = [] := by
  unfold numsOf
  rw [wrong_ok a ha]
  rfl

/-- what stays below the two rows of numbers -/
structure RSt (ea : Addr) (w : World) (ba : Nat) (a : V) (y : It) (W : World) : Prop where
  ok : Ok ea w W
  v : VAtBox W ba a y
theorem RSt.below {ea : Addr} {w : World} {ba : Nat} {a : V} {y : It} {W W' : World} (h : RSt ea w ba a y W) (hb : Below W.heap.size W W') : RSt ea w ba a y W' := ⟨h.ok.below hb, h.v.below hb⟩
/-- two rows of numbers, apart -/
structure TwoRows (base : Nat) (ks js : List Int) (v u : Value) (W : World) : Prop where
  k : W.ownsRow base 3 1 v ks.length (nints ks)
  j : W.ownsRow base 3 1 u js.length (nints js)
  apart : ∀ g g', v.ownBlock = some g → u.ownBlock = some g' → g ≠ g'
theorem TwoRows.alloc {base : Nat} {ks js : List Int} {v u : Value} {W : World} (h : TwoRows base ks js v u W) (o : Obj) : TwoRows base ks js v u (W.alloc o) := ⟨h.k.alloc _, h.j.alloc _, h.apart⟩
theorem kept_apart {W W' : World} {base base' n m : Nat} {v u : Value} {xs : List Value} (h : W.ownsRow base 3 1 u n xs) (hg : W.grownBy W' v.ownBlock) (ha : ∀ g g', v.ownBlock = some g → u.ownBlock = some g' → g ≠ g') : W'.ownsRow base 3 1 u n xs := by
  refine h.kept hg ?_
  cases hu : u.ownBlock with
  | none => exact .inl rfl
  | some g' => exact .inr (fun e => ha g' g' e.symm hu rfl)
theorem TwoRows.addK {base : Nat} {ks js : List Int} {v u v' : Value} {W W' : World} {n : Int} {gg : Nat} (h : TwoRows base ks js v u W) (hg : W.grownBy W' v.ownBlock) (hown : W'.ownsRow base 3 1 v' (ks.length + 1) (nints ks ++ [.int .i64 n])) (hat : v.ownBlock = some gg ∨ gg = W.heap.size) (hv : v'.ownBlock = some gg) : TwoRows base (ks ++ [n]) js v' u W' := by
  refine ⟨by rw [nints_append, List.length_append]; exact hown, kept_apart (base' := 0) (m := 0) h.j hg h.apart, fun g g' h1 h2 => ?_⟩
  rw [hv] at h1
  cases h1
  rcases hat with h3 | h3
  · exact h.apart _ _ h3 h2
  · have := (h.j.lt g' h2).2
    omega
theorem TwoRows.addJ {base : Nat} {ks js : List Int} {v u u' : Value} {W W' : World} {n : Int} {gg : Nat} (h : TwoRows base ks js v u W) (hg : W.grownBy W' u.ownBlock) (hown : W'.ownsRow base 3 1 u' (js.length + 1) (nints js ++ [.int .i64 n])) (hat : u.ownBlock = some gg ∨ gg = W.heap.size) (hv : u'.ownBlock = some gg) : TwoRows base ks (js ++ [n]) v u' W' := by
  refine ⟨kept_apart (base' := 0) (m := 0) h.k hg (fun g g' h1 h2 e => h.apart g' g h2 h1 e.symm), by rw [nints_append, List.length_append]; exact hown, fun g g' h1 h2 => ?_⟩
  rw [hv] at h2
  cases h2
  rcases hat with h3 | h3
  · exact h.apart _ _ h1 h3
  · have := (h.k.lt g h1).2
    omega
structure Rs (ea : Addr) (w : World) (ba : Nat) (a : V) (y : It) (ks : List Int) (vp : Option Addr) (vc : Nat) (js : List Int) (up : Option Addr) (uc : Nat) (W : World) : Prop where
  r : RSt ea w ba a y W
  s : Lies W (.slice vp ks.length vc) ks.length 1 (nints ks)
  k : Lies W (.slice up js.length uc) js.length 1 (nints js)
theorem Rs.below {ea : Addr} {w : World} {ba : Nat} {a : V} {y : It} {ks js : List Int} {vp up : Option Addr} {vc uc : Nat} {W W' : World} (h : Rs ea w ba a y ks vp vc js up uc W) (hb : Below W.heap.size W W') : Rs ea w ba a y ks vp vc js up uc W' := ⟨h.r.below hb, h.s.below hb, h.k.below hb⟩
theorem Rs.alloc {ea : Addr} {w : World} {ba : Nat} {a : V} {y : It} {ks js : List Int} {vp up : Option Addr} {vc uc : Nat} {W : World} (h : Rs ea w ba a y ks vp vc js up uc W) (o : Obj) : Rs ea w ba a y ks vp vc js up uc (W.alloc o) := h.below ((Below.refl _ _).alloc (Nat.le_refl _) o)

set_option maxHeartbeats 4000000 in
set_option maxRecDepth 100000 in
theorem valRefs_walk (x : Raw) (hx : x.fine) (p : Option Addr) (c : Nat) (ea : Addr) (w : World) (hT : Tabs w) (hE : errLies ea w) (hPw : Pow w)
    (hL : Lies w (.slice p x.l.length c) x.l.length 3 (rawsCells x.l)) :
    Calls Tryd.prog 7 #[rawV x p c] w fun e w' => e = .returned (.bool true) ∧ Below w.heap.size w w' := by
  obtain ⟨i0, hi, hz0, hz1, hz2⟩ := info_parts infoInt
  obtain ⟨j0, hj, hy0, hy1, hy2⟩ := info_parts infoVal
  have O0 := (Ok.alloc (ea := ea) (w := w) ⟨hT, hE, Below.refl _ _⟩ (.cells (rawA x p c) 24))
  have R0 := RawBox.new w hx hL
  have oka := valOf_ok x
  obtain ⟨a, ha⟩ : ∃ a, a = valOf x := ⟨_, rfl⟩
  have hofa := fun W => valOf_any x hx p c W
  unfold valOfPost at hofa
  rw [← ha] at hofa oka
  have hl12 := len_of_ok oka
  have O0 := Lib.hid O0
  have HOFA := Lib.hid hofa
  have OKA := Lib.hid oka
  clear hT hE hL hx hofa oka
  go_enter Tryd.func7, Tryd.ntmps7
  go_wp2_with fail
  refine (awake_any ea _ O0.out.t O0.out.e).mono ?_
  rintro e W1 ⟨rfl, hB⟩
  have O1 := O0.out.below hB
  have R1 := R0.below hB
  clear hB O0 R0
  obtain ⟨r0, r1, r2, r3⟩ := R1.facts
  go_wp2_with fail
  refine (HOFA.out _ R1.lies).mono ?_
  rintro e W2 ⟨⟨ak, an, az, ap, am, ac⟩, rfl, hv, hB, _⟩
  have A2 := VAtBox.new hv
  have S2 : RSt ea w W2.heap.size a ⟨ak, an, az, ap, am, ac⟩ (W2.alloc (.cells #[.int .i64 ak, .int .i64 an, .string az, .slice ap am ac] 28)) := ⟨(O1.below hB).alloc _, A2⟩
  clear hB O1 R1 r0 r1 r2 r3 hv
  obtain ⟨⟨c0, c1, c2, c3⟩, _⟩ := A2.box.facts
  obtain ⟨hfine, hk, hn, hs, its, hlen, hlies, hin⟩ := A2.at'.top
  have hm : am = its.length := by have h : am = a.l.length := A2.at'.top.len; omega
  simp only at hk hn hs hlies
  rw [← hm] at hlies
  have S2 := Lib.hid S2
  have HLI := Lib.hid hlies
  have hsame : ∀ (i : Nat) (h : i < (⟨ak, an, az, ap, am, ac⟩ :: its).length) (h' : i < (a :: a.l).length), ((⟨ak, an, az, ap, am, ac⟩ :: its : List It)[i]).k = (a :: a.l)[i].k ∧ ((⟨ak, an, az, ap, am, ac⟩ :: its : List It)[i]).n = (a :: a.l)[i].n := fun i h h' => by
    cases i with
    | zero => exact ⟨hk, hn⟩
    | succ i => exact ⟨(hin i (by simpa using h) (by simpa using h')).same.1, (hin i (by simpa using h) (by simpa using h')).same.2.1⟩
  have HSAME := Lib.hid hsame
  have hnl : am ≤ 12 := by omega
  have HM := Lib.hid hm
  have HLEN := Lib.hid hlen
  have HK := Lib.hid hk
  have HN := Lib.hid hn
  have HS := Lib.hid hs
  clear hm A2 hfine hlies hin hsame hlen hk hn hs
  have hq0 : ((W2.alloc (.cells #[.int .i64 ak, .int .i64 an, .string az, .slice ap am ac] 28)).alloc (.cells #[.int .i64 ak, .int .i64 an, .string az, .slice ap am ac] 28)).ownsRow (W2.heap.size + 1) 28 4 (.slice (some ⟨W2.heap.size + 1, 0, none⟩) 1 1) 1 [.int .i64 ak, .int .i64 an, .string az, .slice ap am ac] :=
    ⟨rfl, .inr ⟨W2.heap.size + 1, 1, #[.int .i64 ak, .int .i64 an, .string az, .slice ap am ac], rfl, Nat.le_refl _, by have h := World.alloc_heap_new (W2.alloc (.cells #[.int .i64 ak, .int .i64 an, .string az, .slice ap am ac] 28)) (.cells #[.int .i64 ak, .int .i64 an, .string az, .slice ap am ac] 28); rw [World.size_alloc] at h; exact h, Nat.le_refl _, by decide, rfl, rfl⟩⟩
  have HQ0 := Lib.hid hq0
  have hli2 : Lies ((W2.alloc (.cells #[.int .i64 ak, .int .i64 an, .string az, .slice ap am ac] 28)).alloc (.cells #[.int .i64 ak, .int .i64 an, .string az, .slice ap am ac] 28)) (.slice ap am ac) am 4 (itsCells its) := HLI.out.below ((Below.refl _ _).alloc (Nat.le_refl _) _)
  have HLI2 := Lib.hid hli2
  have hone : ∀ u ∈ itsCells its, u.oneCell' = true := items_oneCell its
  have HONE := Lib.hid hone
  clear hq0 hli2 hone
  go_wp2_with (at_builtin; refine wpList_append_onto rfl _ _ _ rfl (W2.heap.size + 1) 28 j0 _ 4 56 Tryd.underlying26 hj hy0 hy1 hy2 rfl (by omega) (W2.heap.size + 1) 1 1 (Nat.le_refl _) _ rfl HQ0.out ap am ac (itsCells its) rfl HLI2.out HONE.out (by simp [maxLen] <;> omega) (by omega) (by simp) ?_; intro lp lc W3 hrow hgrow)
  have hbl : Below (W2.alloc (.cells #[.int .i64 ak, .int .i64 an, .string az, .slice ap am ac] 28)).heap.size (W2.alloc (.cells #[.int .i64 ak, .int .i64 an, .string az, .slice ap am ac] 28)) W3 := ((Below.refl _ _).alloc (Nat.le_refl _) _).grown hgrow (by simp) (fun k hk => by cases hk; simp)
  have S3 := Lib.hid (S2.out.below hbl)
  have hrl : Lies W3 (.slice lp (1 + am) lc) (1 + am) 4 (itsCells (⟨ak, an, az, ap, am, ac⟩ :: its)) := Lies.own hrow
  have HRL := Lib.hid hrl
  have hN1 : (⟨ak, an, az, ap, am, ac⟩ :: its : List It).length = 1 + am := by have := HM.out; rw [List.length_cons]; omega
  have hN2 : (a :: a.l).length = 1 + am := by have h1 := HM.out; have h2 := HLEN.out; rw [List.length_cons]; omega
  generalize (⟨ak, an, az, ap, am, ac⟩ :: its : List It) = ys at hN1 HRL HSAME
  obtain ⟨us, hus⟩ : ∃ us, us = a :: a.l := ⟨_, rfl⟩
  rw [← hus] at hN2 HSAME
  have HUS := Lib.hid hus
  have HN1 := Lib.hid hN1
  have HN2 := Lib.hid hN2
  clear hbl hrl hrow hgrow hN1 hN2 hus HQ0 HLI2 HONE HLI S2 c0 c1 c2 c3
  have hcast : ((1 : Int) + (am : Int)) = ((1 + am : Nat) : Int) := by omega
  rw [hcast]
  clear hcast
  generalize hNN : 1 + am = N at HRL HN1 HN2 ⊢
  have hN13 : N ≤ 13 := by omega
  clear hNN
  go_loopw [5, 6, 29] (fun s5 s6 s29 wr => ∃ (i : Nat) (vp : Option Addr) (vc : Nat) (up : Option Addr) (uc : Nat), i ≤ N ∧ s29 = .int .i64 (i : Int) ∧ s5 = .slice vp (pickK 3 (us.take i)).length vc ∧ s6 = .slice up (pickK 4 (us.take i)).length uc ∧ TwoRows W3.heap.size (pickK 3 (us.take i)) (pickK 4 (us.take i)) (.slice vp (pickK 3 (us.take i)).length vc) (.slice up (pickK 4 (us.take i)).length uc) wr ∧ Below W3.heap.size W3 wr) (fun _ _ s _ => N - (intOf s).toNat)
  case atStart => exact ⟨0, none, 0, none, 0, by omega, rfl, rfl, rfl, ⟨World.ownsRow_nil _ _ _ _, World.ownsRow_nil _ _ _ _, fun g g' h => by cases h⟩, Below.refl _ _⟩
  case round =>
    obtain ⟨i, vp, vc, up, uc, hil, rfl, rfl, rfl, hT2, hB⟩ := hrel
    by_cases hlt : i < N
    · have d1 : decide ((i : Int) < (N : Int)) = true := decide_eq_true (by omega)
      have d1' : decide (i < N) = true := decide_eq_true hlt
      have d0 : (0 : Int) ≤ (i : Int) := by omega
      have d3 : (i : Int) < (N : Int) := by omega
      have hiy : i < ys.length := by have := HN1.out; omega
      have hiu : i < us.length := by have := HN2.out; omega
      obtain ⟨b, off, rfl, hb, hc⟩ := HRL.out.at (by omega)
      have hcx : ∀ (j : Nat) (u : Value), ((ys[i]'hiy).cells)[j]? = some u → wr.cell? ⟨b, off + i * 4 + j, none⟩ = some u := fun j u hu => by
        rw [hB.cell (p := ⟨b, off + i * 4 + j, none⟩) hb, Nat.add_assoc]
        exact hc _ _ (itsCells_at ys i hiy j u hu)
      have hs := HSAME.out i hiy hiu
      have h3 := pickK_take 3 us i hiu
      have h4 := pickK_take 4 us i hiu
      have hl3 := pickK_len 3 (us.take i)
      have hl4 := pickK_len 4 (us.take i)
      rw [List.length_take] at hl3 hl4
      rw [← hs.1, ← hs.2] at h3 h4
      generalize ys[i]'hiy = z at hcx h3 h4
      clear hs
      obtain ⟨yk, yn, yz, yp, ym, yc⟩ := z
      simp only at h3 h4
      have z0 : wr.cell? ⟨b, off + i * 4, none⟩ = some (.int .i64 yk) := hcx 0 _ rfl
      have z1 := hcx 1 _ rfl
      have z2 := hcx 2 _ rfl
      have z3 := hcx 3 _ rfl
      obtain ⟨f0, f1, f2, f3⟩ := (VBox.new wr yk yn yz (.slice yp ym yc)).facts.1
      generalize pickK 3 (us.take i) = ks at hT2 hl3 h3 ⊢
      generalize pickK 4 (us.take i) = js at hT2 hl4 h4 ⊢
      have hzz := hB.size
      have TA := hT2.alloc (.cells #[.int .i64 yk, .int .i64 yn, .string yz, .slice yp ym yc] 28)
      have TB := TA.alloc (.cells #[.int .i64 yn] 3)
      have hBa := (hB.alloc hzz (.cells #[.int .i64 yk, .int .i64 yn, .string yz, .slice yp ym yc] 28)).alloc (by simp <;> omega) (.cells #[.int .i64 yn] 3)
      have hvg : ∀ (v : Value) (W : World), (∀ g, v.ownBlock = some g → g < wr.heap.size) → ((wr.alloc (.cells #[.int .i64 yk, .int .i64 yn, .string yz, .slice yp ym yc] 28)).alloc (.cells #[.int .i64 yn] 3)).grownBy W v.ownBlock → W.cell? ⟨wr.heap.size, 0, none⟩ = some (.int .i64 yk) ∧ W.cell? ⟨wr.heap.size, 1, none⟩ = some (.int .i64 yn) := fun v W hv hg => by
        have h : VBox W wr.heap.size yk yn yz (.slice yp ym yc) := Bx.grown (T := 28) ((VBox.new wr yk yn yz (.slice yp ym yc)).alloc _) hg (fun e => by have := hv _ e.symm; omega)
        exact ⟨h.facts.1.1, h.facts.1.2.1⟩
      have hk1 : ∀ g, (Value.slice vp ks.length vc).ownBlock = some g → g < wr.heap.size := fun g h => (hT2.k.lt g h).2
      have hj1 : ∀ g, (Value.slice up js.length uc).ownBlock = some g → g < wr.heap.size := fun g h => (hT2.j.lt g h).2
      have hk2 : ∀ g, (Value.slice vp ks.length vc).ownBlock = some g → W3.heap.size ≤ g := fun g h => (hT2.k.lt g h).1
      have hj2 : ∀ g, (Value.slice up js.length uc).ownBlock = some g → W3.heap.size ≤ g := fun g h => (hT2.j.lt g h).1
      have TA := Lib.hid TA
      have TB := Lib.hid TB
      have HBA := Lib.hid hBa
      have HVG := Lib.hid hvg
      have HK1 := Lib.hid hk1
      have HJ1 := Lib.hid hj1
      have HK2 := Lib.hid hk2
      have HJ2 := Lib.hid hj2
      have HHB := Lib.hid hB
      clear hcx hc hT2 hBa hvg hk1 hj1 hk2 hj2 hB
      by_cases e3 : yk = 3
      · have d33 : (yk == 3) = true := beq_iff_eq.2 e3
        have d44 : (yk == 4) = false := beq_eq_false_iff_ne.2 (by omega)
        have h4' : pickK 4 (us.take (i + 1)) = js := by rw [h4, d44]; exact List.append_nil _
        have h3' : pickK 3 (us.take (i + 1)) = ks ++ [yn] := by rw [h3, d33]; rfl
        clear e3
        have H3 := Lib.hid h3'
        have H4 := Lib.hid h4'
        clear h3 h4 h3' h4'
        go_wp2_with (at_builtin; refine wpList_append_lies _ rfl _ _ _ rfl (W3.heap.size) 3 i0 _ 1 8 Tryd.underlying47 hi hz0 hz1 hz2 rfl (by omega) _ ks.length _ rfl (TB.out.k) ⟨(wr.heap.size + 1), 0, none⟩ 1 1 [.int .i64 yn] rfl rfl (World.news_of_block (cs := #[.int .i64 yn]) (t := 3) (fr := (0, 0)) (by have h := World.alloc_heap_new (wr.alloc (.cells #[.int .i64 yk, .int .i64 yn, .string yz, .slice yp ym yc] 28)) (.cells #[.int .i64 yn] 3); rw [World.size_alloc] at h; exact h)) (by simp [Value.oneCell']) (by omega) (by simp [maxLen] <;> omega) (by omega) (by simp <;> omega) ((wr.heap.size + 1) + 1) (by simp) ?_; intro gg cap w2 hown1 hgrow hat hlt2; obtain ⟨q0, q1⟩ := HVG.out _ _ HK1.out hgrow)
        have hBf := HBA.out.grown hgrow (by simp <;> omega) (fun g hg => HK2.out g hg)
        have T9 := TB.out.addK hgrow hown1 (hat.imp (fun h => by exact h) (fun h => by rw [h]; simp)) rfl
        have hl1 : (ks ++ [yn]).length = ks.length + 1 := by simp
        exact ⟨⟨i + 1, _, cap, up, uc, by omega, by go_num, by rw [H3.out, hl1], by rw [H4.out], by rw [H3.out, H4.out, hl1]; exact T9, hBf⟩, by simp [intOf]; omega⟩
      · have d33 : (yk == 3) = false := beq_eq_false_iff_ne.2 e3
        have h3' : pickK 3 (us.take (i + 1)) = ks := by rw [h3, d33]; exact List.append_nil _
        by_cases e4 : yk = 4
        · have d44 : (yk == 4) = true := beq_iff_eq.2 e4
          have h4' : pickK 4 (us.take (i + 1)) = js ++ [yn] := by rw [h4, d44]; rfl
          clear e3 e4
          have H3 := Lib.hid h3'
          have H4 := Lib.hid h4'
          clear h3 h4 h3' h4'
          go_wp2_with (at_builtin; refine wpList_append_lies _ rfl _ _ _ rfl (W3.heap.size) 3 i0 _ 1 8 Tryd.underlying47 hi hz0 hz1 hz2 rfl (by omega) _ js.length _ rfl (TB.out.j) ⟨(wr.heap.size + 1), 0, none⟩ 1 1 [.int .i64 yn] rfl rfl (World.news_of_block (cs := #[.int .i64 yn]) (t := 3) (fr := (0, 0)) (by have h := World.alloc_heap_new (wr.alloc (.cells #[.int .i64 yk, .int .i64 yn, .string yz, .slice yp ym yc] 28)) (.cells #[.int .i64 yn] 3); rw [World.size_alloc] at h; exact h)) (by simp [Value.oneCell']) (by omega) (by simp [maxLen] <;> omega) (by omega) (by simp <;> omega) ((wr.heap.size + 1) + 1) (by simp) ?_; intro gg cap w2 hown1 hgrow hat hlt2; obtain ⟨q0, q1⟩ := HVG.out _ _ HJ1.out hgrow)
          have hBf := HBA.out.grown hgrow (by simp <;> omega) (fun g hg => HJ2.out g hg)
          have T9 := TB.out.addJ hgrow hown1 (hat.imp (fun h => by exact h) (fun h => by rw [h]; simp)) rfl
          have hl1 : (js ++ [yn]).length = js.length + 1 := by simp
          exact ⟨⟨i + 1, vp, vc, _, cap, by omega, by go_num, by rw [H3.out], by rw [H4.out, hl1], by rw [H3.out, H4.out, hl1]; exact T9, hBf⟩, by simp [intOf]; omega⟩
        · have d44 : (yk == 4) = false := beq_eq_false_iff_ne.2 e4
          have h4' : pickK 4 (us.take (i + 1)) = js := by rw [h4, d44]; exact List.append_nil _
          have H3 := Lib.hid h3'
          have H4 := Lib.hid h4'
          clear h3 h4 h3' h4' e3 e4
          have hBb := HHB.out.alloc hzz (.cells #[.int .i64 yk, .int .i64 yn, .string yz, .slice yp ym yc] 28)
          have HBB := Lib.hid hBb
          clear hBb
          go_wp2_with fail
          exact ⟨⟨i + 1, vp, vc, up, uc, by omega, by go_num, by rw [H3.out], by rw [H4.out], by rw [H3.out, H4.out]; exact TA.out, HBB.out⟩, by simp [intOf]; omega⟩
    · have d1 : decide ((i : Int) < (N : Int)) = false := decide_eq_false (by omega)
      have d1' : decide (i < N) = false := decide_eq_false hlt
      have hi3 : us.take i = us := List.take_of_length_le (by have := HN2.out; omega)
      rw [hi3] at hT2 ⊢
      have hk3 : pickK 3 us = numsOf 3 a := by rw [HUS.out]; unfold numsOf; rw [if_pos OKA.out]
      have hk4 : pickK 4 us = numsOf 4 a := by rw [HUS.out]; unfold numsOf; rw [if_pos OKA.out]
      have hl3 : (numsOf 3 a).length ≤ 1000 := by rw [← hk3]; have := pickK_len 3 us; have := HN2.out; omega
      have hl4 : (numsOf 4 a).length ≤ 1000 := by rw [← hk4]; have := pickK_len 4 us; have := HN2.out; omega
      rw [hk3, hk4] at hT2 ⊢
      have hwr := fun W y h ht => refs_any 1 (V.mk a.k 1152921504606846976 a.s a.l) y W h ht
      have hww := fun W y h ht => weaks_any 1 (V.mk a.k 1152921504606846976 a.s a.l) y W h ht
      rw [wrong_nums a OKA.out 3] at hwr
      rw [wrong_nums a OKA.out 4] at hww
      have hrr := fun W y h ht => refs_any 1 a y W h ht
      have hrw := fun W y h ht => weaks_any 1 a y W h ht
      have hn3 := nums_same (numsOf 3 a) hl3
      have hn4 := nums_same (numsOf 4 a) hl4
      have htx := vtext_len OKA.out
      have htext : ∀ W y, VAt 1 W a y → Ok ea w W → Calls Tryd.prog 15 #[y.v] W fun e w' => e = .returned (.tuple #[.string ⟨a.text.toArray⟩, .int .i64 0]) ∧ Below W.heap.size W w' := fun W y h ho => vtext_any a OKA.out y W h (hPw.below ho.b) ho.t
      have hread : ∀ W, Tabs W → Calls Tryd.prog 16 #[.string ⟨a.text.toArray⟩, .int .i64 0] W fun e W' => ∃ x : It, e = .returned (.tuple #[x.v, .int .i64 (((0 : Nat) : Int) + (a.text.length : Nat)), .int .i64 0]) ∧ VAt 1 W' a x ∧ Below W.heap.size W W' := fun W ht =>
        read_some (p := 0) (by rw [ba_size]; omega) (Nat.zero_le _) (by have h := readV_text a OKA.out [] (.inr (by simp)); simpa using h) ht
      have hbl := (bytes_len OKA.out).2
      have henc : ∀ W y, VAt 1 W a y → Tabs W → Calls Tryd.prog 12 #[y.v] W fun e w' => e = .returned (.tuple #[.string ⟨a.bytes.toArray⟩, .int .i64 0]) ∧ Below W.heap.size W w' := fun W y h ht => encode_ok h ht OKA.out
      have hdec : ∀ W, Ok ea w W → Calls Tryd.prog 13 #[.string ⟨a.bytes.toArray⟩, .int .i64 0] W fun e W' => ∃ x : It, e = .returned (.tuple #[x.v, .int .i64 (((0 : Nat) : Int) + (a.bytes.length : Nat)), .int .i64 0]) ∧ VAt 1 W' a x ∧ Below W.heap.size W W' := fun W ho =>
        decode_some (p := 0) (by rw [ba_size]; omega) (Nat.zero_le _) (by have h := decV_append a OKA.out []; simpa using h) ho.t ho.e
      have F0 : Rs ea w W2.heap.size a ⟨ak, an, az, ap, am, ac⟩ (numsOf 3 a) vp vc (numsOf 4 a) up uc wr := ⟨S3.out.below hB, Lies.own hT2.k, Lies.own hT2.j⟩
      generalize numsOf 3 a = ks at F0 hn3 hrr hl3 ⊢
      generalize numsOf 4 a = js at F0 hn4 hrw hl4 ⊢
      have hak := HK.out
      have has := HS.out
      generalize (⟨a.text.toArray⟩ : ByteArray) = P at htext hread
      generalize (⟨a.bytes.toArray⟩ : ByteArray) = PB at henc hdec
      generalize W2.heap.size = ba at F0 ⊢
      have HWR := Lib.hid hwr
      have HWW := Lib.hid hww
      have HRR := Lib.hid hrr
      have HRW := Lib.hid hrw
      have HN3 := Lib.hid hn3
      have HN4 := Lib.hid hn4
      have HTX := Lib.hid htext
      have HRD := Lib.hid hread
      have HEN := Lib.hid henc
      have HDE := Lib.hid hdec
      have HAK := Lib.hid hak
      have HAS := Lib.hid has
      have G0 := Lib.hid F0
      obtain ⟨⟨c0, c1, c2, c3⟩, _⟩ := F0.r.v.box.facts
      simp only at c0 c1 c2 c3
      clear hT2 hi3 hk3 hk4 hwr hww hrr hrw hn3 hn4 htext hread henc hdec hak has F0 htx hbl hB hPw HUS HN1 HN2 HSAME HRL S3 HM HLEN HN
      go_wp2_with fail
      refine (HTX.out _ ⟨ak, an, az, ap, am, ac⟩ G0.out.r.v.at' G0.out.r.ok).mono ?_
      rintro e X1 ⟨rfl, hB⟩
      have G1 := Lib.hid (G0.out.below hB)
      clear hB G0 c0 c1 c2 c3
      go_wp2_with fail
      refine (HRD.out _ G1.out.r.ok.t).mono ?_
      rintro e X2 ⟨⟨rk, rn, rs, rp, rm, rc⟩, rfl, hv, hB⟩
      have R2 := Lib.hid (VAtBox.new hv)
      have G2 := Lib.hid ((G1.out.below hB).alloc (.cells #[.int .i64 rk, .int .i64 rn, .string rs, .slice rp rm rc] 28))
      clear hv hB G1
      obtain ⟨⟨c0, c1, c2, c3⟩, _⟩ := G2.out.r.v.box.facts
      simp only at c0 c1 c2 c3
      go_wp2_with fail
      generalize X2.alloc (.cells #[.int .i64 rk, .int .i64 rn, .string rs, .slice rp rm rc] 28) = Y2 at R2 G2 c0 c1 c2 c3 ⊢
      generalize X2.heap.size = br at R2 ⊢
      refine (HEN.out _ ⟨ak, an, az, ap, am, ac⟩ G2.out.r.v.at' G2.out.r.ok.t).mono ?_
      rintro e X3 ⟨rfl, hB⟩
      have G3 := Lib.hid (G2.out.below hB)
      have R3 := Lib.hid (R2.out.below hB)
      clear hB G2 R2 c0 c1 c2 c3
      go_wp2_with fail
      refine (HDE.out _ G3.out.r.ok).mono ?_
      rintro e X4 ⟨⟨dk, dn, ds, dp, dm, dc⟩, rfl, hv, hB⟩
      have D4 := Lib.hid ((VAtBox.new hv).alloc (.cells #[.int .i64 ak, .int .i64 1152921504606846976, .string az, .slice ap am ac] 28))
      have g4 := (G3.out.below hB).alloc (.cells #[.int .i64 dk, .int .i64 dn, .string ds, .slice dp dm dc] 28)
      have x4 : VAtBox ((X4.alloc (.cells #[.int .i64 dk, .int .i64 dn, .string ds, .slice dp dm dc] 28)).alloc (.cells #[.int .i64 ak, .int .i64 1152921504606846976, .string az, .slice ap am ac] 28)) (X4.alloc (.cells #[.int .i64 dk, .int .i64 dn, .string ds, .slice dp dm dc] 28)).heap.size (V.mk a.k 1152921504606846976 a.s a.l) ⟨ak, 1152921504606846976, az, ap, am, ac⟩ := by
        have h := g4.r.v.at'.edit a.k 1152921504606846976 a.s g4.r.v.at'.top.1.k (by omega) g4.r.v.at'.top.1.s
        have h1 := HAK.out
        have h2 := HAS.out
        rw [← h1, ← h2] at h ⊢
        exact VAtBox.new h
      rw [World.size_alloc] at x4
      have Q4 := Lib.hid x4
      have G4 := Lib.hid (g4.alloc (.cells #[.int .i64 ak, .int .i64 1152921504606846976, .string az, .slice ap am ac] 28))
      have R4 := Lib.hid (((R3.out.below hB).alloc (.cells #[.int .i64 dk, .int .i64 dn, .string ds, .slice dp dm dc] 28)).alloc (.cells #[.int .i64 ak, .int .i64 1152921504606846976, .string az, .slice ap am ac] 28))
      obtain ⟨⟨c0, c1, c2, c3⟩, _⟩ := g4.r.v.box.facts
      obtain ⟨⟨e0, e1, e2, e3⟩, _⟩ := G4.out.r.v.box.facts
      simp only at c0 c1 c2 c3 e0 e1 e2 e3
      clear hv hB G3 R3 g4 x4
      go_wp2_with fail
      generalize (X4.alloc (.cells #[.int .i64 dk, .int .i64 dn, .string ds, .slice dp dm dc] 28)).alloc (.cells #[.int .i64 ak, .int .i64 1152921504606846976, .string az, .slice ap am ac] 28) = Y4 at G4 R4 D4 Q4 e0 e1 e2 e3 ⊢
      generalize X4.heap.size = bd at D4 Q4 ⊢
      clear c0 c1 c2 c3 e0 e1 e2 e3
      refine (HRR.out _ ⟨ak, an, az, ap, am, ac⟩ G4.out.r.v.at' G4.out.r.ok.t).mono ?_
      rintro e Z4 ⟨q, qc, rfl, hq, hB⟩
      have G5 := Lib.hid (G4.out.below hB)
      have R5 := Lib.hid (R4.out.below hB)
      have D5 := Lib.hid (D4.out.below hB)
      have Q5 := Lib.hid (Q4.out.below hB)
      clear hB G4 R4 D4 Q4
      go_wp2_with fail
      refine (HN3.out _ _ _ _ _ hq G5.out.s).mono ?_
      rintro e Z5 ⟨rfl, hB⟩
      clear hq
      have G6 := Lib.hid (G5.out.below hB)
      have R6 := Lib.hid (R5.out.below hB)
      have D6 := Lib.hid (D5.out.below hB)
      have Q6 := Lib.hid (Q5.out.below hB)
      clear hB G5 R5 D5 Q5
      obtain ⟨⟨c0, c1, c2, c3⟩, _⟩ := G6.out.r.v.box.facts
      simp only at c0 c1 c2 c3
      go_wp2_with fail
      refine (HRW.out _ ⟨ak, an, az, ap, am, ac⟩ G6.out.r.v.at' G6.out.r.ok.t).mono ?_
      rintro e Z6 ⟨q, qc, rfl, hq, hB⟩
      clear c0 c1 c2 c3
      have G7 := Lib.hid (G6.out.below hB)
      have R7 := Lib.hid (R6.out.below hB)
      have D7 := Lib.hid (D6.out.below hB)
      have Q7 := Lib.hid (Q6.out.below hB)
      clear hB G6 R6 D6 Q6
      go_wp2_with fail
      refine (HN4.out _ _ _ _ _ hq G7.out.k).mono ?_
      rintro e Z7 ⟨rfl, hB⟩
      clear hq
      have G8 := Lib.hid (G7.out.below hB)
      have R8 := Lib.hid (R7.out.below hB)
      have D8 := Lib.hid (D7.out.below hB)
      have Q8 := Lib.hid (Q7.out.below hB)
      clear hB G7 R7 D7 Q7
      obtain ⟨⟨c0, c1, c2, c3⟩, _⟩ := R8.out.box.facts
      simp only at c0 c1 c2 c3
      go_wp2_with fail
      refine (HRR.out _ ⟨rk, rn, rs, rp, rm, rc⟩ R8.out.at' G8.out.r.ok.t).mono ?_
      rintro e Z8 ⟨q, qc, rfl, hq, hB⟩
      clear c0 c1 c2 c3
      have G9 := Lib.hid (G8.out.below hB)
      have R9 := Lib.hid (R8.out.below hB)
      have D9 := Lib.hid (D8.out.below hB)
      have Q9 := Lib.hid (Q8.out.below hB)
      clear hB G8 R8 D8 Q8
      go_wp2_with fail
      refine (HN3.out _ _ _ _ _ hq G9.out.s).mono ?_
      rintro e Z9 ⟨rfl, hB⟩
      clear hq
      have G10 := Lib.hid (G9.out.below hB)
      have R10 := Lib.hid (R9.out.below hB)
      have D10 := Lib.hid (D9.out.below hB)
      have Q10 := Lib.hid (Q9.out.below hB)
      clear hB G9 R9 D9 Q9
      obtain ⟨⟨c0, c1, c2, c3⟩, _⟩ := D10.out.box.facts
      simp only at c0 c1 c2 c3
      go_wp2_with fail
      refine (HRW.out _ ⟨dk, dn, ds, dp, dm, dc⟩ D10.out.at' G10.out.r.ok.t).mono ?_
      rintro e Z10 ⟨q, qc, rfl, hq, hB⟩
      clear c0 c1 c2 c3
      have G11 := Lib.hid (G10.out.below hB)
      have R11 := Lib.hid (R10.out.below hB)
      have D11 := Lib.hid (D10.out.below hB)
      have Q11 := Lib.hid (Q10.out.below hB)
      clear hB G10 R10 D10 Q10
      go_wp2_with fail
      refine (HN4.out _ _ _ _ _ hq G11.out.k).mono ?_
      rintro e Z11 ⟨rfl, hB⟩
      clear hq
      have G12 := Lib.hid (G11.out.below hB)
      have R12 := Lib.hid (R11.out.below hB)
      have D12 := Lib.hid (D11.out.below hB)
      have Q12 := Lib.hid (Q11.out.below hB)
      clear hB G11 R11 D11 Q11
      obtain ⟨⟨c0, c1, c2, c3⟩, _⟩ := Q12.out.box.facts
      simp only at c0 c1 c2 c3
      go_wp2_with fail
      refine (HWR.out _ ⟨ak, 1152921504606846976, az, ap, am, ac⟩ Q12.out.at' G12.out.r.ok.t).mono ?_
      rintro e Z12 ⟨q12, qc12, rfl, hq, hB⟩
      clear hq c0 c1 c2 c3
      rw [show ([] : List Int).length = 0 from rfl]
      have G13 := Lib.hid (G12.out.below hB)
      have R13 := Lib.hid (R12.out.below hB)
      have D13 := Lib.hid (D12.out.below hB)
      have Q13 := Lib.hid (Q12.out.below hB)
      clear hB G12 R12 D12 Q12
      obtain ⟨⟨c0, c1, c2, c3⟩, _⟩ := Q13.out.box.facts
      simp only at c0 c1 c2 c3
      go_wp2_with fail
      refine (HWW.out _ ⟨ak, 1152921504606846976, az, ap, am, ac⟩ Q13.out.at' G13.out.r.ok.t).mono ?_
      rintro e Z13 ⟨q13, qc13, rfl, hq, hB⟩
      clear hq c0 c1 c2 c3
      rw [show ([] : List Int).length = 0 from rfl]
      have G14 := Lib.hid (G13.out.below hB)
      have R14 := Lib.hid (R13.out.below hB)
      have D14 := Lib.hid (D13.out.below hB)
      have Q14 := Lib.hid (Q13.out.below hB)
      clear hB G13 R13 D13 Q13
      go_wp2_with fail
      go_ret
      exact ⟨rfl, G14.out.r.ok.b⟩
end Go.Proofs.YtbmfclankoblfaaDoor

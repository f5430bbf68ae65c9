/- moraineref03.numbers, Refs, Weaks. -/
import Derived.Test.YtmijlcilnaeppaaGreatDoorBun17
import Derived.Test.YtmijlcilnaeppaaGreatDoorRefNumsZ
set_option linter.unusedSimpArgs false
set_option linter.unusedVariables false
namespace Go.Proofs.YtmijlcilnaeppaaGreatDoor
open Go Go.RowKit Go.Shelf

theorem numsOf_hit {kind : Int} {v : V} (hk : kind ≠ 5) (hok : v.ok = true) (h : v.k = kind) : numsOf kind v = [v.n] := by
  have hl : v.l = [] := by
    have := (flatOk_parts (ok_flat hok (by omega))).2.2.1
    exact List.eq_nil_of_length_eq_zero this
  unfold numsOf pickK
  rw [if_pos hok, hl, List.filter_cons, if_pos (beq_iff_eq.2 h)]
  rfl
theorem pickK_tail {kind : Int} {v : V} (i : Nat) (h : v.k ≠ kind) : numsTo kind v i = pickK kind (v.l.take i) := by
  unfold numsTo pickK
  rw [List.filter_cons, if_neg (by simpa using h)]

set_option maxHeartbeats 4000000 in
set_option maxRecDepth 100000 in
theorem rnumbers_any (d : Nat) (v : V) (x : It) (kind : Int) (hkind : kind ≠ 5) (w : World) (hx : VAt d w v x) (hsh : v.short) :
    Calls Tryz.prog 40 #[x.v, .int .i64 kind] w (intsPost (numsOf kind v) w) := by
  obtain ⟨i0, hi, hz0, hz1, hz2⟩ := info_parts infoInt
  have hright := fun W (hb : Below w.heap.size w W) => rright_V d v x W (hx.below hb) hsh
  obtain ⟨hfine, hk, hn, hs, its, hlen, hlies, hin⟩ := hx.top
  have hm : x.m = its.length := by have := hx.top.len; omega
  have hsame : ∀ (i : Nat) (h : i < its.length) (h' : i < v.l.length), its[i].k = v.l[i].k ∧ its[i].n = v.l[i].n := fun i a b => ⟨(hin i a b).same.1, (hin i a b).same.2.1⟩
  have hl12 : v.ok = true → its.length ≤ 12 := fun h => by rw [hlen]; exact len_of_ok h
  have hbad : v.ok = false → numsOf kind v = [] := fun h => by unfold numsOf; rw [if_neg (by rw [h]; decide)]
  have hhit : v.ok = true → v.k = kind → numsOf kind v = [v.n] := fun a b => numsOf_hit hkind a b
  have hzero : v.k ≠ kind → numsTo kind v 0 = [] := fun h => by rw [numsTo_zero, if_neg (by simpa using h)]
  have hsucc := numsTo_succ kind v
  have hend := numsTo_end kind v
  have hnl := numsTo_len kind v
  obtain ⟨xk, xn, xs, p, xm, c⟩ := x
  simp only at hk hn hm hlies hright
  subst hm
  rw [← hk, ← hn] at hhit
  rw [← hk] at hzero
  have hb : Below w.heap.size w (w.alloc (.cells #[.int .i64 xk, .int .i64 xn, .string xs, .slice p its.length c] 30)) := (Below.refl _ _).alloc (Nat.le_refl _) _
  have hV := VBox.new w xk xn xs (.slice p its.length c)
  have HRIGHT := Lib.hid hright
  have HSAME := Lib.hid hsame
  have HL12 := Lib.hid hl12
  have HBAD := Lib.hid hbad
  have HHIT := Lib.hid hhit
  have HZERO := Lib.hid hzero
  have HSUCC := Lib.hid hsucc
  have HEND := Lib.hid hend
  have HNL := Lib.hid hnl
  have HLEN := Lib.hid hlen
  have HL := Lib.hid hlies
  have HB := Lib.hid hb
  have HV := Lib.hid hV
  obtain ⟨⟨c0, c1, c2, c3⟩, _⟩ := hV.facts
  clear hright hsame hl12 hbad hhit hzero hsucc hend hnl hlen hlies hin hx hs hb hV hfine hk hn hsh
  generalize hok : v.ok = ok
  have HOK := Lib.hid hok
  clear hok
  go_enter Tryz.func40, Tryz.ntmps40
  go_wp2_with fail
  refine (HRIGHT.out _ HB.out).mono ?_
  rintro e W1 ⟨rfl, hB1⟩
  rw [HOK.out]
  have hB2 := HB.out.trans (hB1.mono HB.out.size)
  have hV1 := HV.out.below hB1
  have hz1' : w.heap.size + 1 ≤ W1.heap.size := by have := hV1.lt; omega
  clear c0 c1 c2 c3 hB1 HB HV
  obtain ⟨⟨c0, c1, c2, c3⟩, _⟩ := hV1.facts
  cases ok with
  | false =>
    have hn := HBAD.out HOK.out
    have HN := Lib.hid hn
    have HB2 := Lib.hid hB2
    clear hn hB2 hV1
    go_wp2_with fail
    go_ret
    exact ⟨none, 0, by rw [HN.out]; rfl, by rw [HN.out]; exact ⟨rfl, .inl ⟨rfl, none, 0, rfl⟩⟩, HB2.out⟩
  | true =>
    have hl12 := HL12.out HOK.out
    have HB2 := Lib.hid hB2
    have HEND2 := Lib.hid (HEND.out HOK.out)
    clear hB2
    by_cases hk : xk = kind
    · have dk : (xk == kind) = true := beq_iff_eq.2 hk
      have hz : numsOf kind v = [xn] := HHIT.out HOK.out hk
      have HZ := Lib.hid hz
      clear hz hV1 hk
      go_wp2_with fail
      go_ret
      have hl : Lies (W1.alloc (.cells #[.int .i64 xn] 3)) (.slice (some ⟨W1.heap.size, 0, none⟩) 1 1) 1 1 (nints [xn]) := by
        refine ⟨rfl, .inr ⟨W1.heap.size, 0, 1, rfl, by simp, fun j u hu => ?_⟩⟩
        rw [World.cell?_alloc_new]
        match j with
        | 0 => simpa [nints] using hu
        | j + 1 => simp [nints] at hu
      exact ⟨some ⟨W1.heap.size, 0, none⟩, 1, by rw [HZ.out]; rfl, by rw [HZ.out]; exact hl, HB2.out.alloc (by omega) _⟩
    · have dk : (xk == kind) = false := beq_eq_false_iff_ne.2 hk
      have hz : numsTo kind v 0 = [] := HZERO.out hk
      have HZ := Lib.hid hz
      have hst : ∃ (i : Nat) (vp : Option Addr) (vc : Nat), i ≤ its.length ∧ Value.int .i64 0 = .int .i64 (i : Int) ∧ Value.slice none 0 0 = .slice vp (numsTo kind v i).length vc ∧ W1.ownsRow (w.heap.size + 1) 3 1 (.slice vp (numsTo kind v i).length vc) (numsTo kind v i).length (nints (numsTo kind v i)) ∧ Below w.heap.size w W1 ∧ w.heap.size + 1 ≤ W1.heap.size ∧ VBox W1 w.heap.size xk xn xs (.slice p its.length c) :=
        ⟨0, none, 0, by omega, rfl, by rw [HZ.out]; rfl, by rw [HZ.out]; exact World.ownsRow_nil _ _ _ _, HB2.out, by omega, hV1⟩
      have HST := Lib.hid hst
      clear hst hz hV1 hk
      go_wp2_with fail
      clear c0 c1 c2 c3
      go_loopw [6, 7] (fun s6 s7 wr => ∃ (i : Nat) (vp : Option Addr) (vc : Nat), i ≤ its.length ∧ s7 = .int .i64 (i : Int) ∧ s6 = .slice vp (numsTo kind v i).length vc ∧ wr.ownsRow (w.heap.size + 1) 3 1 (.slice vp (numsTo kind v i).length vc) (numsTo kind v i).length (nints (numsTo kind v i)) ∧ Below w.heap.size w wr ∧ w.heap.size + 1 ≤ wr.heap.size ∧ VBox wr w.heap.size xk xn xs (.slice p its.length c)) (fun _ s _ => its.length - (intOf s).toNat)
      case atStart => exact HST.out
      case round =>
        obtain ⟨i, vp, vc, hil, rfl, rfl, hown, hB, hlt0, hVr⟩ := hrel
        have hnl := HNL.out i
        obtain ⟨⟨c0, c1, c2, c3⟩, _⟩ := hVr.facts
        by_cases hlt : i < its.length
        · have d1 : decide ((i : Int) < (its.length : Int)) = true := decide_eq_true (by omega)
          have d0 : (0 : Int) ≤ (i : Int) := by omega
          have d3 : (i : Int) < (its.length : Int) := by omega
          have hiu : i < v.l.length := by have := HLEN.out; omega
          obtain ⟨b, off, rfl, hb, hc⟩ := HL.out.at (by omega)
          have hcx : ∀ (j : Nat) (u : Value), ((its[i]'hlt).cells)[j]? = some u → wr.cell? ⟨b, off + i * 4 + j, none⟩ = some u := fun j u hu => by
            rw [hB.cell (p := ⟨b, off + i * 4 + j, none⟩) hb, Nat.add_assoc]
            exact hc _ _ (itsCells_at its i hlt j u hu)
          have hs := HSAME.out i hlt hiu
          have hnext := HSUCC.out i hiu
          rw [← hs.1, ← hs.2] at hnext
          generalize its[i]'hlt = z at hcx hnext
          clear hs
          obtain ⟨yk, yn, ys, yp, ym, yc⟩ := z
          simp only at hnext
          have z0 : wr.cell? ⟨b, off + i * 4, none⟩ = some (.int .i64 yk) := hcx 0 _ rfl
          have z1 := hcx 1 _ rfl
          have z2 := hcx 2 _ rfl
          have z3 := hcx 3 _ rfl
          generalize numsTo kind v i = ks at hown hnl hnext ⊢
          have hgo := hown.lt
          have HGO := Lib.hid hgo
          have HOWN := Lib.hid hown
          have HHB := Lib.hid hB
          have HVR := Lib.hid hVr
          clear hcx hc hown hB hVr hgo
          by_cases hyk : (yk == kind) = true
          · have hnx := hnext.trans (congrArg (ks ++ ·) (if_pos hyk))
            have HN := Lib.hid hnx
            clear hnx hnext
            go_wp2_with (at_builtin; refine wpList_append_lies _ rfl _ _ _ rfl (w.heap.size + 1) 3 i0 _ 1 8 Tryz.underlying38 hi hz0 hz1 hz2 rfl (by omega) _ ks.length _ rfl (HOWN.out.alloc _) ⟨wr.heap.size, 0, none⟩ 1 1 [.int .i64 yn] rfl rfl (World.news_of_block (cs := #[.int .i64 yn]) (t := 3) (fr := (0, 0)) (by have h := World.alloc_heap_new wr (.cells #[.int .i64 yn] 3); exact h)) (by simp [Value.oneCell']) (by omega) (by simp [maxLen] <;> omega) (by omega) (by simp <;> omega) (wr.heap.size + 1) (by simp) ?_; intro gg cap w2 hown1 hgrow hat hlt2)
            have hBf := (HHB.out.alloc (by omega) (.cells #[.int .i64 yn] 3)).grown hgrow (by simp <;> omega) (fun g hg => by have := (HGO.out g hg).1; omega)
            have hgg := (hown1.lt gg rfl).1
            have hVf : VBox w2 w.heap.size xk xn xs (.slice (some ⟨b, off, none⟩) its.length c) := Bx.grown (T := 30) (HVR.out.alloc _) hgrow (fun e => by have := (HGO.out w.heap.size e.symm).1; omega)
            exact ⟨⟨i + 1, _, cap, by omega, by go_num, by rw [HN.out, List.length_append]; rfl, by rw [HN.out, nints_append, List.length_append]; exact hown1, hBf, by omega, hVf⟩, by simp [intOf]; omega⟩
          · have hyk' : (yk == kind) = false := by cases h : (yk == kind) with | true => exact absurd h hyk | false => rfl
            have hnx := (hnext.trans (congrArg (ks ++ ·) (if_neg hyk))).trans (List.append_nil _)
            have HN := Lib.hid hnx
            clear hnx hnext hyk
            go_wp2_with fail
            exact ⟨⟨i + 1, vp, vc, by omega, by go_num, by rw [HN.out], by rw [HN.out]; exact HOWN.out, HHB.out, by omega, HVR.out⟩, by simp [intOf]; omega⟩
        · have d1 : decide ((i : Int) < (its.length : Int)) = false := decide_eq_false (by omega)
          have hi3 : i = v.l.length := by have := HLEN.out; omega
          have he := HEND2.out
          rw [← hi3] at he
          have HE := Lib.hid he
          have HOWN := Lib.hid hown
          have HHB := Lib.hid hB
          clear he hown hB hi3
          go_wp2_with fail
          go_ret
          exact ⟨vp, vc, by rw [← HE.out]; rfl, by rw [← HE.out]; exact Lies.own HOWN.out, HHB.out⟩

theorem rrefs_any (d : Nat) (v : V) (x : It) (w : World) (hx : VAt d w v x) (hsh : v.short) :
    Calls Tryz.prog 15 #[x.v] w (intsPost (numsOf 3 v) w) := by
  have hn := fun W (hb : Below w.heap.size w W) => rnumbers_any d v x 3 (by decide) W (hx.below hb) hsh
  obtain ⟨xk, xn, xs, p, m, c⟩ := x
  have hb : Below w.heap.size w (w.alloc (.cells #[.int .i64 xk, .int .i64 xn, .string xs, .slice p m c] 30)) := (Below.refl _ _).alloc (Nat.le_refl _) _
  obtain ⟨⟨c0, c1, c2, c3⟩, _⟩ := (VBox.new w xk xn xs (.slice p m c)).facts
  generalize numsOf 3 v = ks at hn ⊢
  have HN := Lib.hid hn
  have HB := Lib.hid hb
  clear hn hb hx
  go_enter Tryz.func15, Tryz.ntmps15
  go_wp2_with fail
  refine (HN.out _ HB.out).mono ?_
  rintro e W1 ⟨p', c', rfl, h2, h3⟩
  go_wp2_with fail
  go_ret
  exact ⟨p', c', rfl, h2, HB.out.trans (h3.mono HB.out.size)⟩
theorem rweaks_any (d : Nat) (v : V) (x : It) (w : World) (hx : VAt d w v x) (hsh : v.short) :
    Calls Tryz.prog 17 #[x.v] w (intsPost (numsOf 4 v) w) := by
  have hn := fun W (hb : Below w.heap.size w W) => rnumbers_any d v x 4 (by decide) W (hx.below hb) hsh
  obtain ⟨xk, xn, xs, p, m, c⟩ := x
  have hb : Below w.heap.size w (w.alloc (.cells #[.int .i64 xk, .int .i64 xn, .string xs, .slice p m c] 30)) := (Below.refl _ _).alloc (Nat.le_refl _) _
  obtain ⟨⟨c0, c1, c2, c3⟩, _⟩ := (VBox.new w xk xn xs (.slice p m c)).facts
  generalize numsOf 4 v = ks at hn ⊢
  have HN := Lib.hid hn
  have HB := Lib.hid hb
  clear hn hb hx
  go_enter Tryz.func17, Tryz.ntmps17
  go_wp2_with fail
  refine (HN.out _ HB.out).mono ?_
  rintro e W1 ⟨p', c', rfl, h2, h3⟩
  go_wp2_with fail
  go_ret
  exact ⟨p', c', rfl, h2, HB.out.trans (h3.mono HB.out.size)⟩
end Go.Proofs.YtmijlcilnaeppaaGreatDoor

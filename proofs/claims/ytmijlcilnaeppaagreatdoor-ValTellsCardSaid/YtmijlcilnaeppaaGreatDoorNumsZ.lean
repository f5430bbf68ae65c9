/- val.numbers, val.Refs, val.Weaks. -/
import Derived.Test.YtmijlcilnaeppaaGreatDoorFitValZ
import Derived.Test.YtmijlcilnaeppaaGreatDoorValOrderLawZ
set_option linter.unusedSimpArgs false
set_option linter.unusedVariables false
namespace Go.Proofs.YtmijlcilnaeppaaGreatDoor
open Go Go.RowKit Go.Shelf

theorem infoInt : (Tryz.prog.info? 3).map (fun i => (i.zero, i.size, i.bytes)) = some (some (.int .i64 0), 1, 8) := by kernel_rfl
def nints (ks : List Int) : List Value := ks.map (fun k => .int .i64 k)
theorem nints_append (a b : List Int) : nints (a ++ b) = nints a ++ nints b := List.map_append
theorem nints_at (ks : List Int) (i : Nat) (h : i < ks.length) : (nints ks)[i]? = some (.int .i64 ks[i]) := by
  unfold nints
  rw [List.getElem?_map, List.getElem?_eq_getElem h]; rfl
/-- the numbers of one kind, of the value and of its first items -/
def pickK (kind : Int) (us : List V) : List Int := (us.filter (fun u => u.k == kind)).map V.n
def numsTo (kind : Int) (v : V) (i : Nat) : List Int := pickK kind (v :: v.l.take i)
def numsOf (kind : Int) (v : V) : List Int := if v.ok = true then pickK kind (v :: v.l) else []
theorem numsTo_len (kind : Int) (v : V) (i : Nat) : (numsTo kind v i).length ≤ i + 1 := by
  unfold numsTo pickK
  rw [List.length_map]
  have := List.length_filter_le (fun u : V => u.k == kind) (v :: v.l.take i)
  rw [List.length_cons, List.length_take] at this
  omega
theorem numsTo_zero (kind : Int) (v : V) : numsTo kind v 0 = if (v.k == kind) = true then [v.n] else [] := by
  unfold numsTo pickK
  rw [List.take_zero, List.filter_cons]
  split <;> rfl
theorem numsTo_succ (kind : Int) (v : V) (i : Nat) (h : i < v.l.length) : numsTo kind v (i + 1) = numsTo kind v i ++ (if (v.l[i].k == kind) = true then [v.l[i].n] else []) := by
  unfold numsTo pickK
  rw [List.take_succ_eq_append_getElem h, ← List.cons_append, List.filter_append, List.map_append]
  congr 1
  rw [List.filter_cons]
  split <;> rfl
theorem numsTo_end (kind : Int) (v : V) (hok : v.ok = true) : numsTo kind v v.l.length = numsOf kind v := by
  unfold numsTo numsOf
  rw [if_pos hok, List.take_length]

def intsPost (ks : List Int) (w : World) (e : Ending) (w' : World) : Prop := ∃ (p : Option Addr) (c : Nat), e = .returned (.slice p ks.length c) ∧ Lies w' (.slice p ks.length c) ks.length 1 (nints ks) ∧ Below w.heap.size w w'

set_option maxHeartbeats 2000000 in
set_option maxRecDepth 100000 in
theorem numbers_any (d : Nat) (v : V) (x : It) (kind : Int) (w : World) (hx : VAt d w v x) (hT : Tabs w) :
    Calls Tryz.prog 39 #[x.v, .int .i64 kind] w (intsPost (numsOf kind v) w) := by
  obtain ⟨i0, hi, hz0, hz1, hz2⟩ := info_parts infoInt
  have hright := fun W (hb : Below w.heap.size w W) => right_V d v x W (hx.below hb) (hT.below hb)
  obtain ⟨hfine, hk, hn, hs, its, hlen, hlies, hin⟩ := hx.top
  have hm : x.m = its.length := by have := hx.top.len; omega
  have hsame : ∀ (i : Nat) (h : i < its.length) (h' : i < v.l.length), its[i].k = v.l[i].k ∧ its[i].n = v.l[i].n := fun i a b => ⟨(hin i a b).same.1, (hin i a b).same.2.1⟩
  have hl12 : v.ok = true → its.length ≤ 12 := fun h => by rw [hlen]; exact len_of_ok h
  have hbad : v.ok = false → numsOf kind v = [] := fun h => by unfold numsOf; rw [if_neg (by rw [h]; decide)]
  have hzero := numsTo_zero kind v
  have hsucc := numsTo_succ kind v
  have hend := numsTo_end kind v
  have hnl := numsTo_len kind v
  obtain ⟨xk, xn, xs, p, xm, c⟩ := x
  simp only at hk hn hm hlies hright
  subst hm
  rw [← hk, ← hn] at hzero
  have hb : Below w.heap.size w (w.alloc (.cells #[.int .i64 xk, .int .i64 xn, .string xs, .slice p its.length c] 30)) := (Below.refl _ _).alloc (Nat.le_refl _) _
  have hV := VBox.new w xk xn xs (.slice p its.length c)
  have HRIGHT := Lib.hid hright
  have HSAME := Lib.hid hsame
  have HL12 := Lib.hid hl12
  have HBAD := Lib.hid hbad
  have HZERO := Lib.hid hzero
  have HSUCC := Lib.hid hsucc
  have HEND := Lib.hid hend
  have HNL := Lib.hid hnl
  have HLEN := Lib.hid hlen
  have HL := Lib.hid hlies
  have HB := Lib.hid hb
  have HV := Lib.hid hV
  obtain ⟨⟨c0, c1, c2, c3⟩, _⟩ := hV.facts
  clear hright hsame hl12 hbad hzero hsucc hend hnl hlen hlies hin hx hT hs hb hV hfine hk hn
  generalize hok : v.ok = ok
  have HOK := Lib.hid hok
  clear hok
  go_enter Tryz.func39, Tryz.ntmps39
  go_wp2_with fail
  refine (HRIGHT.out _ HB.out).mono ?_
  rintro e W1 ⟨rfl, hB1⟩
  rw [HOK.out]
  have hB2 := HB.out.trans (hB1.mono HB.out.size)
  have hV1 := HV.out.below hB1
  have hz1' : w.heap.size + 1 ≤ W1.heap.size := by have := hV1.lt; omega
  clear c0 c1 c2 c3 hB1 HB HV
  obtain ⟨⟨c0, c1, c2, c3⟩, _⟩ := hV1.facts
  cases ok with
  | false =>
    have hn := HBAD.out HOK.out
    have HN := Lib.hid hn
    have HB2 := Lib.hid hB2
    clear hn hB2 hV1
    go_wp2_with fail
    go_ret
    exact ⟨none, 0, by rw [HN.out]; rfl, by rw [HN.out]; exact ⟨rfl, .inl ⟨rfl, none, 0, rfl⟩⟩, HB2.out⟩
  | true =>
    have hl12 := HL12.out HOK.out
    have HB2 := Lib.hid hB2
    have HEND2 := Lib.hid (HEND.out HOK.out)
    clear hB2
    by_cases hk : (xk == kind) = true
    · have hz : numsTo kind v 0 = [xn] := HZERO.out.trans (if_pos hk)
      have HZ := Lib.hid hz
      have hvg : ∀ w2, (W1.alloc (.cells #[.int .i64 xn] 3)).grownBy w2 (Value.slice none 0 0).ownBlock → w2.cell? ⟨w.heap.size, 3, none⟩ = some (.slice p its.length c) := fun w2 hg => by
        have h : VBox w2 w.heap.size xk xn xs (.slice p its.length c) := Bx.grown (T := 30) (hV1.alloc _) hg (fun e => by simp [Value.ownBlock] at e)
        exact h.facts.1.2.2.2
      have HVG := Lib.hid hvg
      clear hz hvg hV1
      go_wp2_with (at_builtin; refine wpList_append_lies _ rfl _ _ _ rfl (w.heap.size + 1) 3 i0 _ 1 8 Tryz.underlying38 hi hz0 hz1 hz2 rfl (by omega) _ 0 _ rfl (World.ownsRow_nil _ _ _ _) ⟨W1.heap.size, 0, none⟩ 1 1 [.int .i64 xn] rfl rfl (World.news_of_block (cs := #[.int .i64 xn]) (t := 3) (fr := (0, 0)) (by have h := World.alloc_heap_new (W1) (.cells #[.int .i64 xn] 3); (try rw [World.size_alloc] at h); exact h)) (by simp [Value.oneCell']) (by omega) (by simp [maxLen] <;> omega) (by omega) (by simp <;> omega) (W1.heap.size + 1) (by simp) ?_; intro gg cap w2 hown1 hgrow hat hlt2; have q3 := HVG.out _ hgrow)
      have hB3 := (HB2.out.alloc (by omega) (.cells #[.int .i64 xn] 3)).grown hgrow (by simp <;> omega) (fun g hg => by cases hg)
      have hgg := (hown1.lt gg rfl).1
      have hst : ∃ (i : Nat) (vp : Option Addr) (vc : Nat), i ≤ its.length ∧ Value.int .i64 0 = .int .i64 (i : Int) ∧ Value.slice (some ⟨gg, 0, none⟩) (0 + 1) cap = .slice vp (numsTo kind v i).length vc ∧ w2.ownsRow (w.heap.size + 1) 3 1 (.slice vp (numsTo kind v i).length vc) (numsTo kind v i).length (nints (numsTo kind v i)) ∧ Below w.heap.size w w2 ∧ w.heap.size + 1 ≤ w2.heap.size :=
        ⟨0, some ⟨gg, 0, none⟩, cap, by omega, rfl, by rw [HZ.out]; rfl, by rw [HZ.out]; exact hown1, hB3, by omega⟩
      have HST := Lib.hid hst
      clear hst hown1 hgrow hat hlt2 hB3 c0 c1 c2 c3 q3
      go_loopw [5, 23] (fun s5 s23 wr => ∃ (i : Nat) (vp : Option Addr) (vc : Nat), i ≤ its.length ∧ s23 = .int .i64 (i : Int) ∧ s5 = .slice vp (numsTo kind v i).length vc ∧ wr.ownsRow (w.heap.size + 1) 3 1 (.slice vp (numsTo kind v i).length vc) (numsTo kind v i).length (nints (numsTo kind v i)) ∧ Below w.heap.size w wr ∧ w.heap.size + 1 ≤ wr.heap.size) (fun _ s _ => its.length - (intOf s).toNat)
      case atStart => exact HST.out
      case round =>
        obtain ⟨i, vp, vc, hil, rfl, rfl, hown, hB, hlt0⟩ := hrel
        have hnl := HNL.out i
        by_cases hlt : i < its.length
        · have d1 : decide ((i : Int) < (its.length : Int)) = true := decide_eq_true (by omega)
          have d1' : decide (i < its.length) = true := decide_eq_true hlt
          have d0 : (0 : Int) ≤ (i : Int) := by omega
          have d3 : (i : Int) < (its.length : Int) := by omega
          have hiu : i < v.l.length := by have := HLEN.out; omega
          obtain ⟨b, off, rfl, hb, hc⟩ := HL.out.at (by omega)
          have hcx : ∀ (j : Nat) (u : Value), ((its[i]'hlt).cells)[j]? = some u → wr.cell? ⟨b, off + i * 4 + j, none⟩ = some u := fun j u hu => by
            rw [hB.cell (p := ⟨b, off + i * 4 + j, none⟩) hb, Nat.add_assoc]
            exact hc _ _ (itsCells_at its i hlt j u hu)
          have hs := HSAME.out i hlt hiu
          have hnext := HSUCC.out i hiu
          rw [← hs.1, ← hs.2] at hnext
          generalize its[i]'hlt = z at hcx hnext
          clear hs
          obtain ⟨yk, yn, ys, yp, ym, yc⟩ := z
          simp only at hnext
          have z0 : wr.cell? ⟨b, off + i * 4, none⟩ = some (.int .i64 yk) := hcx 0 _ rfl
          have z1 := hcx 1 _ rfl
          have z2 := hcx 2 _ rfl
          have z3 := hcx 3 _ rfl
          have hnew := (VBox.new wr yk yn ys (.slice yp ym yc)).facts.1
          obtain ⟨f0, f1, f2, f3⟩ := hnew
          generalize numsTo kind v i = ks at hown hnl hnext ⊢
          have hBa := hB.alloc (by omega) (.cells #[.int .i64 yk, .int .i64 yn, .string ys, .slice yp ym yc] 30)
          have howa := hown.alloc (.cells #[.int .i64 yk, .int .i64 yn, .string ys, .slice yp ym yc] 30)
          have HOWN := Lib.hid hown
          have HOWA := Lib.hid howa
          have HBA := Lib.hid hBa
          have HHB := Lib.hid hB
          clear hcx hc hown howa hBa hB
          by_cases hyk : (yk == kind) = true
          · have hnx := hnext.trans (congrArg (ks ++ ·) (if_pos hyk))
            have HN := Lib.hid hnx
            clear hnx hnext
            go_wp2_with (at_builtin; refine wpList_append_lies _ rfl _ _ _ rfl (w.heap.size + 1) 3 i0 _ 1 8 Tryz.underlying38 hi hz0 hz1 hz2 rfl (by omega) _ ks.length _ rfl (HOWA.out.alloc _) ⟨(wr.heap.size + 1), 0, none⟩ 1 1 [.int .i64 yn] rfl rfl (World.news_of_block (cs := #[.int .i64 yn]) (t := 3) (fr := (0, 0)) (by have h := World.alloc_heap_new (wr.alloc (.cells #[.int .i64 yk, .int .i64 yn, .string ys, .slice yp ym yc] 30)) (.cells #[.int .i64 yn] 3); (try rw [World.size_alloc] at h); exact h)) (by simp [Value.oneCell']) (by omega) (by simp [maxLen] <;> omega) (by omega) (by simp <;> omega) ((wr.heap.size + 1) + 1) (by simp) ?_; intro gg cap w2 hown1 hgrow hat hlt2)
            have hgo := HOWN.out.lt
            have hBf := (HBA.out.alloc (by simp <;> omega) (.cells #[.int .i64 yn] 3)).grown hgrow (by simp <;> omega) (fun g hg => by have := (hgo g hg).1; omega)
            have hgg := (hown1.lt gg rfl).1
            exact ⟨⟨i + 1, _, cap, by omega, by go_num, by rw [HN.out, List.length_append]; rfl, by rw [HN.out, nints_append, List.length_append]; exact hown1, hBf, by omega⟩, by simp [intOf]; omega⟩
          · have hyk' : (yk == kind) = false := by cases h : (yk == kind) with | true => exact absurd h hyk | false => rfl
            have hnx := (hnext.trans (congrArg (ks ++ ·) (if_neg hyk))).trans (List.append_nil _)
            have HN := Lib.hid hnx
            clear hnx hnext hyk
            go_wp2_with fail
            exact ⟨⟨i + 1, vp, vc, by omega, by go_num, by rw [HN.out], by rw [HN.out]; exact HOWA.out, HBA.out, by simp; omega⟩, by simp [intOf]; omega⟩
        · have d1 : decide ((i : Int) < (its.length : Int)) = false := decide_eq_false (by omega)
          have d1' : decide (i < its.length) = false := decide_eq_false hlt
          have hi3 : i = v.l.length := by have := HLEN.out; omega
          have he := HEND2.out
          rw [← hi3] at he
          have HE := Lib.hid he
          have HOWN := Lib.hid hown
          have HHB := Lib.hid hB
          clear he hown hB hi3
          go_wp2_with fail
          go_ret
          exact ⟨vp, vc, by rw [← HE.out]; rfl, by rw [← HE.out]; exact Lies.own HOWN.out, HHB.out⟩
    · have hk' : (xk == kind) = false := by cases h : (xk == kind) with | true => exact absurd h hk | false => rfl
      have hz : numsTo kind v 0 = [] := HZERO.out.trans (if_neg hk)
      have HZ := Lib.hid hz
      have hst : ∃ (i : Nat) (vp : Option Addr) (vc : Nat), i ≤ its.length ∧ Value.int .i64 0 = .int .i64 (i : Int) ∧ Value.slice none 0 0 = .slice vp (numsTo kind v i).length vc ∧ W1.ownsRow (w.heap.size + 1) 3 1 (.slice vp (numsTo kind v i).length vc) (numsTo kind v i).length (nints (numsTo kind v i)) ∧ Below w.heap.size w W1 ∧ w.heap.size + 1 ≤ W1.heap.size :=
        ⟨0, none, 0, by omega, rfl, by rw [HZ.out]; rfl, by rw [HZ.out]; exact World.ownsRow_nil _ _ _ _, HB2.out, by omega⟩
      have HST := Lib.hid hst
      clear hst hz hk hV1
      go_wp2_with fail
      clear c0 c1 c2 c3
      go_loopw [5, 23] (fun s5 s23 wr => ∃ (i : Nat) (vp : Option Addr) (vc : Nat), i ≤ its.length ∧ s23 = .int .i64 (i : Int) ∧ s5 = .slice vp (numsTo kind v i).length vc ∧ wr.ownsRow (w.heap.size + 1) 3 1 (.slice vp (numsTo kind v i).length vc) (numsTo kind v i).length (nints (numsTo kind v i)) ∧ Below w.heap.size w wr ∧ w.heap.size + 1 ≤ wr.heap.size) (fun _ s _ => its.length - (intOf s).toNat)
      case atStart => exact HST.out
      case round =>
        obtain ⟨i, vp, vc, hil, rfl, rfl, hown, hB, hlt0⟩ := hrel
        have hnl := HNL.out i
        by_cases hlt : i < its.length
        · have d1 : decide ((i : Int) < (its.length : Int)) = true := decide_eq_true (by omega)
          have d1' : decide (i < its.length) = true := decide_eq_true hlt
          have d0 : (0 : Int) ≤ (i : Int) := by omega
          have d3 : (i : Int) < (its.length : Int) := by omega
          have hiu : i < v.l.length := by have := HLEN.out; omega
          obtain ⟨b, off, rfl, hb, hc⟩ := HL.out.at (by omega)
          have hcx : ∀ (j : Nat) (u : Value), ((its[i]'hlt).cells)[j]? = some u → wr.cell? ⟨b, off + i * 4 + j, none⟩ = some u := fun j u hu => by
            rw [hB.cell (p := ⟨b, off + i * 4 + j, none⟩) hb, Nat.add_assoc]
            exact hc _ _ (itsCells_at its i hlt j u hu)
          have hs := HSAME.out i hlt hiu
          have hnext := HSUCC.out i hiu
          rw [← hs.1, ← hs.2] at hnext
          generalize its[i]'hlt = z at hcx hnext
          clear hs
          obtain ⟨yk, yn, ys, yp, ym, yc⟩ := z
          simp only at hnext
          have z0 : wr.cell? ⟨b, off + i * 4, none⟩ = some (.int .i64 yk) := hcx 0 _ rfl
          have z1 := hcx 1 _ rfl
          have z2 := hcx 2 _ rfl
          have z3 := hcx 3 _ rfl
          have hnew := (VBox.new wr yk yn ys (.slice yp ym yc)).facts.1
          obtain ⟨f0, f1, f2, f3⟩ := hnew
          generalize numsTo kind v i = ks at hown hnl hnext ⊢
          have hBa := hB.alloc (by omega) (.cells #[.int .i64 yk, .int .i64 yn, .string ys, .slice yp ym yc] 30)
          have howa := hown.alloc (.cells #[.int .i64 yk, .int .i64 yn, .string ys, .slice yp ym yc] 30)
          have HOWN := Lib.hid hown
          have HOWA := Lib.hid howa
          have HBA := Lib.hid hBa
          have HHB := Lib.hid hB
          clear hcx hc hown howa hBa hB
          by_cases hyk : (yk == kind) = true
          · have hnx := hnext.trans (congrArg (ks ++ ·) (if_pos hyk))
            have HN := Lib.hid hnx
            clear hnx hnext
            go_wp2_with (at_builtin; refine wpList_append_lies _ rfl _ _ _ rfl (w.heap.size + 1) 3 i0 _ 1 8 Tryz.underlying38 hi hz0 hz1 hz2 rfl (by omega) _ ks.length _ rfl (HOWA.out.alloc _) ⟨(wr.heap.size + 1), 0, none⟩ 1 1 [.int .i64 yn] rfl rfl (World.news_of_block (cs := #[.int .i64 yn]) (t := 3) (fr := (0, 0)) (by have h := World.alloc_heap_new (wr.alloc (.cells #[.int .i64 yk, .int .i64 yn, .string ys, .slice yp ym yc] 30)) (.cells #[.int .i64 yn] 3); (try rw [World.size_alloc] at h); exact h)) (by simp [Value.oneCell']) (by omega) (by simp [maxLen] <;> omega) (by omega) (by simp <;> omega) ((wr.heap.size + 1) + 1) (by simp) ?_; intro gg cap w2 hown1 hgrow hat hlt2)
            have hgo := HOWN.out.lt
            have hBf := (HBA.out.alloc (by simp <;> omega) (.cells #[.int .i64 yn] 3)).grown hgrow (by simp <;> omega) (fun g hg => by have := (hgo g hg).1; omega)
            have hgg := (hown1.lt gg rfl).1
            exact ⟨⟨i + 1, _, cap, by omega, by go_num, by rw [HN.out, List.length_append]; rfl, by rw [HN.out, nints_append, List.length_append]; exact hown1, hBf, by omega⟩, by simp [intOf]; omega⟩
          · have hyk' : (yk == kind) = false := by cases h : (yk == kind) with | true => exact absurd h hyk | false => rfl
            have hnx := (hnext.trans (congrArg (ks ++ ·) (if_neg hyk))).trans (List.append_nil _)
            have HN := Lib.hid hnx
            clear hnx hnext hyk
            go_wp2_with fail
            exact ⟨⟨i + 1, vp, vc, by omega, by go_num, by rw [HN.out], by rw [HN.out]; exact HOWA.out, HBA.out, by simp; omega⟩, by simp [intOf]; omega⟩
        · have d1 : decide ((i : Int) < (its.length : Int)) = false := decide_eq_false (by omega)
          have d1' : decide (i < its.length) = false := decide_eq_false hlt
          have hi3 : i = v.l.length := by have := HLEN.out; omega
          have he := HEND2.out
          rw [← hi3] at he
          have HE := Lib.hid he
          have HOWN := Lib.hid hown
          have HHB := Lib.hid hB
          clear he hown hB hi3
          go_wp2_with fail
          go_ret
          exact ⟨vp, vc, by rw [← HE.out]; rfl, by rw [← HE.out]; exact Lies.own HOWN.out, HHB.out⟩
end Go.Proofs.YtmijlcilnaeppaaGreatDoor

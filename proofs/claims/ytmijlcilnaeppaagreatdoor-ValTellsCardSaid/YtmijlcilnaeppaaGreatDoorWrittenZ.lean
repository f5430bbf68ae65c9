/- val.written, val.Text. -/
import Derived.Test.YtmijlcilnaeppaaGreatDoorWritInZ
import Derived.Test.YtmijlcilnaeppaaGreatDoorFitValZ
import Derived.Test.YtmijlcilnaeppaaGreatDoorBun14
set_option linter.unusedSimpArgs false
set_option linter.unusedVariables false
namespace Go.Proofs.YtmijlcilnaeppaaGreatDoor
open Go Go.RowKit Go.Shelf

theorem infoStr : (Tryz.prog.info? 9).map (fun i => (i.zero, i.size, i.bytes)) = some (some (.string ⟨#[]⟩), 1, 16) := by kernel_rfl
/-- the texts of the first items -/
def strs (us : List V) (i : Nat) : List Value := (us.take i).map (fun u => .string ⟨u.textIn.toArray⟩)
theorem strs_succ (us : List V) (i : Nat) (h : i < us.length) : strs us (i + 1) = strs us i ++ [.string ⟨us[i].textIn.toArray⟩] := by
  unfold strs
  rw [List.take_succ_eq_append_getElem h, List.map_append]; rfl
def texts (us : List V) : List ByteArray := us.map (fun u => ⟨u.textIn.toArray⟩)
theorem texts_join (us : List V) : Lib.join ((texts us).map (·.data.toList)) [32] = itemsText us := by
  rw [← join_items]
  congr 1
  unfold texts
  rw [List.map_map]
  exact List.map_congr_left (fun u _ => by simp)
theorem strs_at (us : List V) (j : Nat) (x : ByteArray) (h : (texts us)[j]? = some x) : (strs us us.length)[j]? = some (.string x) := by
  unfold strs
  unfold texts at h
  rw [List.take_length, List.getElem?_map]
  rw [List.getElem?_map] at h
  cases hu : us[j]? with
  | none => rw [hu] at h; cases h
  | some u => rw [hu] at h; cases h; rfl
theorem textIn_len {u : V} (h : u.flatOk = true) : u.textIn.length ≤ 130 := by
  obtain ⟨_, hs, _, hn1, hn2⟩ := flatOk_parts h
  have hi := Lib.itoa_length_le u.n (by omega) (by omega)
  have hq := quoted_len u.s.data.toList
  have hz : u.s.data.toList.length = u.s.size := by simp
  unfold V.textIn
  split
  · omega
  · split
    · rw [List.length_cons, List.length_append, List.length_singleton]; omega
    · split
      · rw [List.length_cons]; omega
      · split
        · rw [List.length_cons]; omega
        · simp
theorem itemsText_len : ∀ (us : List V), (∀ u ∈ us, u.flatOk = true) → (itemsText us).length ≤ 131 * us.length
  | [], _ => by simp [itemsText]
  | u :: us, h => by
    have h1 := textIn_len (h u List.mem_cons_self)
    have hm : ∀ l : List V, (∀ u ∈ l, u.flatOk = true) → (moreText l).length ≤ 131 * l.length := by
      intro l
      induction l with
      | nil => intro _; simp [moreText]
      | cons a l ih =>
        intro hl
        have h2 := textIn_len (hl a List.mem_cons_self)
        have h3 := ih (fun u hu => hl u (List.mem_cons_of_mem _ hu))
        show (32 :: a.textIn ++ moreText l).length ≤ _
        rw [List.length_append, List.length_cons, List.length_cons]; omega
    have h2 := hm us (fun u hu => h u (List.mem_cons_of_mem _ hu))
    show (u.textIn ++ moreText us).length ≤ _
    rw [List.length_append, List.length_cons]; omega
theorem ba_around (l : List UInt8) : ((⟨#[91]⟩ : ByteArray) ++ ⟨l.toArray⟩) ++ ⟨#[93]⟩ = ⟨(91 :: (l ++ [93])).toArray⟩ := by
  rw [ba_cons]
  apply ByteArray.ext
  rw [ByteArray.data_append]
  simp

set_option maxHeartbeats 2000000 in
set_option maxRecDepth 100000 in
theorem written_list (us : List V) (hl : us.length ≤ 12) (hok : ∀ u ∈ us, u.flatOk = true) (its : List It) (hlen : its.length = us.length) (p : Option Addr) (c : Nat) (w : World) (hlies : Lies w (.slice p its.length c) its.length 4 (itsCells its))
    (hsame : ∀ (i : Nat) (h : i < its.length) (h' : i < us.length), its[i].k = us[i].k ∧ its[i].n = us[i].n ∧ its[i].s = us[i].s) (hP : Pow w) :
    Calls Tryz.prog 34 #[valV 5 0 ⟨#[]⟩ (.slice p its.length c)] w fun e w' => e = .returned (.string ⟨(91 :: (itemsText us ++ [93])).toArray⟩) ∧ Below w.heap.size w w' := by
  obtain ⟨i0, hi, hz0, hz1, hz2⟩ := info_parts infoStr
  have hb : Below w.heap.size w (w.alloc (.cells #[.int .i64 5, .int .i64 0, .string ⟨#[]⟩, .slice p its.length c] 30)) := (Below.refl _ _).alloc (Nat.le_refl _) _
  have hV := VBox.new w 5 0 ⟨#[]⟩ (.slice p its.length c)
  have hone : ∀ (i : Nat) (h : i < us.length) (l : Value) (W : World), Pow W → Calls Tryz.prog 34 #[valV us[i].k us[i].n us[i].s l] W fun e w' => e = .returned (.string ⟨us[i].textIn.toArray⟩) ∧ Below W.heap.size W w' := fun i h l W hW =>
    writtenIn_any us[i] (hok _ (List.getElem_mem h)) l W hW
  have hjoin := texts_join us
  have hilen := itemsText_len us hok
  have hat := strs_at us
  have hsz : ∀ i, i ≤ us.length → (strs us i).length = i := fun i h => by unfold strs; rw [List.length_map, List.length_take]; omega
  have hsucc := strs_succ us
  have htl : (texts us).length = us.length := by unfold texts; rw [List.length_map]
  have HP := Lib.hid hP
  have HONE := Lib.hid hone
  have HJOIN := Lib.hid hjoin
  have HILEN := Lib.hid hilen
  have HAT := Lib.hid hat
  have HSZ := Lib.hid hsz
  have HSUCC := Lib.hid hsucc
  have HTL := Lib.hid htl
  have HLEN := Lib.hid hlen
  have HL := Lib.hid hlies
  have HSAME := Lib.hid hsame
  have HB := Lib.hid hb
  have hnl : its.length ≤ 12 := by omega
  clear hone hjoin hilen hat hsz hsucc htl hlen hlies hsame hb hok hP
  obtain ⟨⟨c0, c1, c2, c3⟩, _⟩ := hV.facts
  clear hV
  unfold valV
  go_enter Tryz.func34, Tryz.ntmps34
  go_wp2_with fail
  generalize hW2 : w.alloc (.cells #[.int .i64 5, .int .i64 0, .string ⟨#[]⟩, .slice p its.length c] 30) = W2 at HB c0 c1 c2 c3 ⊢
  have hz2' : W2.heap.size = w.heap.size + 1 := by rw [← hW2, World.size_alloc]
  clear hW2 c0 c1 c2 c3
  go_loopw [3, 35] (fun s3 s35 wr => ∃ (i : Nat) (vp : Option Addr) (vc : Nat), i ≤ its.length ∧ s35 = .int .i64 (i : Int) ∧ s3 = .slice vp i vc ∧ wr.ownsRow (w.heap.size + 1) 9 1 (.slice vp i vc) i (strs us i) ∧ Below w.heap.size w wr ∧ w.heap.size < wr.heap.size) (fun _ s _ => its.length - (intOf s).toNat)
  case atStart => exact ⟨0, none, 0, by omega, rfl, rfl, World.ownsRow_nil _ _ _ _, HB.out, by omega⟩
  case round =>
    obtain ⟨i, vp, vc, hil, rfl, rfl, hown, hB, hlt0⟩ := hrel
    by_cases hlt : i < its.length
    · have d1 : decide ((i : Int) < (its.length : Int)) = true := decide_eq_true (by omega)
      have d1' : decide (i < its.length) = true := decide_eq_true hlt
      have d0 : (0 : Int) ≤ (i : Int) := by omega
      have d3 : (i : Int) < (its.length : Int) := by omega
      have hiu : i < us.length := by have := HLEN.out; omega
      obtain ⟨b, off, rfl, hb, hc⟩ := HL.out.at (by omega)
      have hcx : ∀ (j : Nat) (u : Value), ((its[i]'hlt).cells)[j]? = some u → wr.cell? ⟨b, off + i * 4 + j, none⟩ = some u := fun j u hu => by
        rw [hB.cell (p := ⟨b, off + i * 4 + j, none⟩) hb, Nat.add_assoc]
        exact hc _ _ (itsCells_at its i hlt j u hu)
      have hs := HSAME.out i hlt hiu
      have hcall := HONE.out i hiu
      have hnext := HSUCC.out i hiu
      generalize us[i]'hiu = u at hs hcall hnext
      generalize its[i]'hlt = z at hcx hs
      obtain ⟨yk, yn, ys, yp, ym, yc⟩ := z
      obtain ⟨e1, e2, e3⟩ := hs
      simp only at e1 e2 e3
      rw [← e1, ← e2, ← e3] at hcall
      have z0 : wr.cell? ⟨b, off + i * 4, none⟩ = some (.int .i64 yk) := hcx 0 _ rfl
      have z1 := hcx 1 _ rfl
      have z2 := hcx 2 _ rfl
      have z3 := hcx 3 _ rfl
      have hnew := VBox.new wr yk yn ys (.slice yp ym yc)
      have hS1 : (wr.alloc (.cells #[.int .i64 yk, .int .i64 yn, .string ys, .slice yp ym yc] 30)).cell? ⟨wr.heap.size, 0, none⟩ = some (.int .i64 yk) ∧ (wr.alloc (.cells #[.int .i64 yk, .int .i64 yn, .string ys, .slice yp ym yc] 30)).cell? ⟨wr.heap.size, 1, none⟩ = some (.int .i64 yn) ∧ (wr.alloc (.cells #[.int .i64 yk, .int .i64 yn, .string ys, .slice yp ym yc] 30)).cell? ⟨wr.heap.size, 2, none⟩ = some (.string ys) ∧ (wr.alloc (.cells #[.int .i64 yk, .int .i64 yn, .string ys, .slice yp ym yc] 30)).cell? ⟨wr.heap.size, 3, none⟩ = some (.slice yp ym yc) := hnew.facts.1
      have hpw : ∀ W, Below (wr.alloc (.cells #[.int .i64 yk, .int .i64 yn, .string ys, .slice yp ym yc] 30)).heap.size (wr.alloc (.cells #[.int .i64 yk, .int .i64 yn, .string ys, .slice yp ym yc] 30)) W → Pow W := fun W h => by
        have h1 : Below w.heap.size w (wr.alloc (.cells #[.int .i64 yk, .int .i64 yn, .string ys, .slice yp ym yc] 30)) := hB.alloc (by omega) _
        have h2 := h1
        exact HP.out.below (h2.trans (h.mono h2.size))
      have hB0 := Below.refl (wr.alloc (.cells #[.int .i64 yk, .int .i64 yn, .string ys, .slice yp ym yc] 30)).heap.size (wr.alloc (.cells #[.int .i64 yk, .int .i64 yn, .string ys, .slice yp ym yc] 30))
      have hwd : ∀ W, Below (wr.alloc (.cells #[.int .i64 yk, .int .i64 yn, .string ys, .slice yp ym yc] 30)).heap.size (wr.alloc (.cells #[.int .i64 yk, .int .i64 yn, .string ys, .slice yp ym yc] 30)) W → Below w.heap.size w W := fun W h => by
        have h1 : Below w.heap.size w (wr.alloc (.cells #[.int .i64 yk, .int .i64 yn, .string ys, .slice yp ym yc] 30)) := hB.alloc (by omega) _
        have h2 := h1
        exact h2.trans (h.mono h2.size)
      have howd : ∀ W1, Below (wr.alloc (.cells #[.int .i64 yk, .int .i64 yn, .string ys, .slice yp ym yc] 30)).heap.size (wr.alloc (.cells #[.int .i64 yk, .int .i64 yn, .string ys, .slice yp ym yc] 30)) W1 → (W1.alloc (.cells #[.string ⟨u.textIn.toArray⟩] 9)).ownsRow (w.heap.size + 1) 9 1 (.slice vp i vc) i (strs us i) := fun W1 h =>
        (owned_below (hown.alloc _) h).alloc _
      have hzd : (wr.alloc (.cells #[.int .i64 yk, .int .i64 yn, .string ys, .slice yp ym yc] 30)).heap.size = wr.heap.size + 1 := by show (wr.alloc (.cells #[.int .i64 yk, .int .i64 yn, .string ys, .slice yp ym yc] 30)).heap.size = _; rw [World.size_alloc]
      have HPW := Lib.hid hpw
      have HWD := Lib.hid hwd
      have HOWD := Lib.hid howd
      have HC := Lib.hid (fun W => hcall (.slice yp ym yc) W)
      have HNEXT := Lib.hid hnext
      have HOWN := Lib.hid hown
      have HHB := Lib.hid hB
      clear hpw hwd howd hcall hnext hcx hc e1 e2 e3 hnew hown hB HB
      go_wp2_with fail
      refine (HC.out _ (HPW.out _ hB0)).mono ?_
      rintro e W1 ⟨rfl, hB1⟩
      have hw1 : w.heap.size + 1 ≤ W1.heap.size + 1 := by have := hB1.size; omega
      go_wp2_with (at_builtin; refine wpList_append_lies _ rfl _ _ _ rfl (w.heap.size + 1) 9 i0 _ 1 16 Tryz.underlying88 hi hz0 hz1 hz2 rfl (by omega) _ i _ rfl (HOWD.out _ hB1) ⟨W1.heap.size, 0, none⟩ 1 1 [.string ⟨u.textIn.toArray⟩] rfl rfl (World.news_of_block (cs := #[.string ⟨u.textIn.toArray⟩]) (t := 9) (fr := (0, 0)) (World.alloc_heap_new W1 _)) (by simp [Value.oneCell']) (by omega) (by simp [maxLen]; omega) (by omega) (by simp; omega) (W1.heap.size + 1) (by simp) ?_; intro gg cap w2 hown1 hgrow hat hlt2)
      have hgo := HOWN.out.lt
      have hBf := ((HWD.out _ hB1).alloc (by omega) (.cells #[.string ⟨u.textIn.toArray⟩] 9)).grown hgrow (by simp; omega) (fun g hg => by have := (hgo g hg).1; omega)
      have hgg := (hown1.lt gg rfl).1
      exact ⟨⟨i + 1, _, cap, by omega, by go_num, rfl, by rw [HNEXT.out]; exact hown1, hBf, by omega⟩, by simp [intOf]; omega⟩
    · have d1 : decide ((i : Int) < (its.length : Int)) = false := decide_eq_false (by omega)
      have d1' : decide (i < its.length) = false := decide_eq_false hlt
      have hiu : i = us.length := by have := HLEN.out; omega
      have hJ : Calls Tryz.prog 65 #[.slice vp i vc, .string ⟨#[32]⟩] wr fun e w' => e = .returned (.string ⟨(itemsText us).toArray⟩) ∧ Below wr.heap.size wr w' := by
        rcases Nat.eq_zero_or_pos i with h0 | h0
        · have hus : us = [] := List.length_eq_zero_iff.1 (by omega)
          rw [hus, h0]
          exact (Tryz.strings_Join_none vp vc ⟨#[32]⟩ wr).mono fun e w' ⟨h1, h2⟩ => ⟨h1, by rw [h2]; exact Below.refl _ _⟩
        · obtain ⟨bk, o, rfl, hbk, hc⟩ := (Lies.own hown).at h0
          have hcap : i ≤ vc := by
            rcases hown.2 with ⟨h, h'⟩ | ⟨g, cap, _, h, _, _, h', _⟩
            · omega
            · injection h with _ _ h3; omega
          have h := Tryz.strings_Join bk o vc (texts us) ⟨#[32]⟩ wr (fun j x hx => hc j _ (by rw [hiu]; exact HAT.out j x hx)) hbk (by rw [HTL.out]; omega) (by rw [HTL.out]; omega) (by have := HILEN.out; have e := HJOIN.out; rw [e]; omega)
          rw [HTL.out, ← hiu] at h
          have e := HJOIN.out
          refine h.mono ?_
          rintro e' w' ⟨rfl, h2⟩
          exact ⟨by rw [e], h2⟩
      have hil2 := HILEN.out
      have hcc1 : ¬ 9223372036854775807 < 1 + (itemsText us).length := by omega
      have hcc2 : ¬ 9223372036854775807 < 1 + (itemsText us).length + 1 := by omega
      have HJ := Lib.hid hJ
      have HHB := Lib.hid hB
      clear hJ hB hown hiu
      go_wp2_with fail
      refine HJ.out.mono ?_
      rintro e W1 ⟨rfl, hB1⟩
      go_wp2_with fail
      go_ret
      exact ⟨by rw [ba_around]; rfl, HHB.out.trans (hB1.mono HHB.out.size)⟩
theorem written_any {d : Nat} (v : V) (hok : v.ok = true) (x : It) (w : World) (hx : VAt d w v x) (hP : Pow w) :
    Calls Tryz.prog 34 #[x.v] w fun e w' => e = .returned (.string ⟨v.text.toArray⟩) ∧ Below w.heap.size w w' := by
  obtain ⟨hfine, hk, hn, hs, ys, hlen, hlies, hin⟩ := hx.top
  have hm := hx.top.len
  obtain ⟨xk, xn, xs, xp, xm, xc⟩ := x
  simp only at hk hn hs hm hlies
  subst hm
  by_cases h5 : v.k = 5
  · obtain ⟨e, hl, hu⟩ := ok_list hok h5
    have h1 : v.n = 0 := by rw [e]; rfl
    have h2 : v.s = ⟨#[]⟩ := by rw [e]; rfl
    have h := written_list v.l hl (fun u h => (okIn_parts (hu u h)).2) ys hlen xp xc w (by rw [hlen] at hlies ⊢; exact hlies) (fun i a b => ⟨(hin i a b).same.1, (hin i a b).same.2.1, (hin i a b).same.2.2.1⟩) hP
    have et : v.text = 91 :: (itemsText v.l ++ [93]) := by unfold V.text; rw [if_pos h5]
    rw [et]
    rw [hlen] at h
    subst hk hn hs
    rw [← h5, ← h1, ← h2] at h
    exact h
  · have et : v.text = v.textIn := by unfold V.text; rw [if_neg h5]
    rw [et]
    subst hk hn hs
    exact writtenIn_any v (ok_flat hok h5) (.slice xp v.l.length xc) w hP

set_option maxHeartbeats 1000000 in
set_option maxRecDepth 100000 in
theorem vtext_any {d : Nat} (v : V) (hok : v.ok = true) (x : It) (w : World) (hx : VAt d w v x) (hP : Pow w) (hT : Tabs w) :
    Calls Tryz.prog 9 #[x.v] w fun e w' => e = .returned (.tuple #[.string ⟨v.text.toArray⟩, .int .i64 0]) ∧ Below w.heap.size w w' := by
  have hr := fun W (h : Below w.heap.size w W) => right_V d v x W (hx.below h) (hT.below h)
  have hw := fun W (h : Below w.heap.size w W) => written_any v hok x W (hx.below h) (hP.below h)
  rw [hok] at hr
  obtain ⟨xk, xn, xs, xp, xm, xc⟩ := x
  have hV := VBox.new w xk xn xs (.slice xp xm xc)
  have hb : Below w.heap.size w (w.alloc (.cells #[.int .i64 xk, .int .i64 xn, .string xs, .slice xp xm xc] 30)) := (Below.refl _ _).alloc (Nat.le_refl _) _
  have HR := Lib.hid hr
  have HW := Lib.hid hw
  have HB := Lib.hid hb
  have HV := Lib.hid hV
  clear hr hw hb hx hT hP hok
  obtain ⟨⟨c0, c1, c2, c3⟩, _⟩ := hV.facts
  go_enter Tryz.func9, Tryz.ntmps9
  go_wp2_with fail
  refine (HR.out _ HB.out).mono ?_
  rintro e W1 ⟨rfl, hB1⟩
  have hB2 := HB.out.trans (hB1.mono HB.out.size)
  have hV1 := HV.out.below hB1
  clear c0 c1 c2 c3 hB1
  obtain ⟨⟨c0, c1, c2, c3⟩, _⟩ := hV1.facts
  go_wp2_with fail
  refine (HW.out _ hB2).mono ?_
  rintro e W2 ⟨rfl, hB3⟩
  go_wp2_with fail
  exact bodyPost_ret (v := .tuple #[.string ⟨v.text.toArray⟩, .int .i64 0]) (by simp [results, Tryz.results9, go_sem]) rfl ⟨rfl, hB2.trans (hB3.mono hB2.size)⟩
set_option maxHeartbeats 1000000 in
set_option maxRecDepth 100000 in
theorem vtext_bad {d : Nat} (v : V) (hok : v.ok = false) (x : It) (w : World) (hx : VAt d w v x) (hT : Tabs w) :
    Calls Tryz.prog 9 #[x.v] w fun e w' => e = .returned (.tuple #[.string ⟨#[]⟩, .int .i64 30]) ∧ Below w.heap.size w w' := by
  have hr := fun W (h : Below w.heap.size w W) => right_V d v x W (hx.below h) (hT.below h)
  rw [hok] at hr
  obtain ⟨xk, xn, xs, xp, xm, xc⟩ := x
  have hV := VBox.new w xk xn xs (.slice xp xm xc)
  have hb : Below w.heap.size w (w.alloc (.cells #[.int .i64 xk, .int .i64 xn, .string xs, .slice xp xm xc] 30)) := (Below.refl _ _).alloc (Nat.le_refl _) _
  have HR := Lib.hid hr
  have HB := Lib.hid hb
  clear hr hb hx hT hok
  obtain ⟨⟨c0, c1, c2, c3⟩, _⟩ := hV.facts
  go_enter Tryz.func9, Tryz.ntmps9
  go_wp2_with fail
  refine (HR.out _ HB.out).mono ?_
  rintro e W1 ⟨rfl, hB1⟩
  go_wp2_with fail
  exact bodyPost_ret (v := .tuple #[.string ⟨#[]⟩, .int .i64 30]) (by simp [results, Tryz.results9, go_sem]) rfl ⟨rfl, HB.out.trans (hB1.mono HB.out.size)⟩
end Go.Proofs.YtmijlcilnaeppaaGreatDoor

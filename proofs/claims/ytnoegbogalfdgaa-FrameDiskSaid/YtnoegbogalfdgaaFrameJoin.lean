/- Join: the batches that frames hold. -/
import Derived.Lib.AppendStr
import Derived.WalkMore
import Derived.Scope
import Derived.Test.YtnoegbogalfdgaaFrameSame
import Derived.Test.YtnoegbogalfdgaaFrameCut
import Derived.Test.YtnoegbogalfdgaaBytesAt
set_option linter.unusedSimpArgs false
set_option linter.unusedVariables false
namespace Go.Proofs.Ytnoegbogalfdgaa
open Go Go.RowKit Wire

/-- the batches of frames, one frame after the other: those that are whole, what is begun, how many frames there are up to the last end -/
def joinGo : List Fr → Nat → List ByteArray → List UInt8 → Bool → Nat → List ByteArray × Nat
  | [], _, bs, _, _, c => (bs, c)
  | f :: r, i, bs, b, g, c =>
    if Frame.right f.e f.a f.k f.s.data.toList = false ∨ f.k = 1 ∨ (f.k = 4 ∧ g = true) then (bs, c)
    else if f.k = 4 then joinGo r (i + 1) bs b g (i + 1)
    else if f.k = 2 then joinGo r (i + 1) bs (b ++ f.s.data.toList) true c
    else joinGo r (i + 1) (bs ++ [⟨(b ++ f.s.data.toList).toArray⟩]) [] false (i + 1)

/-- rows of unlike elements are unlike rows -/
theorem rows_unlike {W : World} {base base' : Nat} {e e' : TypeId} {v v' : Value} {n n' : Nat} {xs xs' : List Value} (he : e ≠ e') (h : W.ownsRow base e 1 v n xs) (h' : W.ownsRow base' e' 1 v' n' xs') (hv : v.ownBlock ≠ none) : v.ownBlock ≠ v'.ownBlock := by
  rcases h.2 with ⟨rfl, _⟩ | ⟨g, cap, cur, rfl, _, hg, _⟩
  · exact (hv rfl).elim
  · rcases h'.2 with ⟨rfl, _⟩ | ⟨g', cap', cur', rfl, _, hg', _⟩
    · simp [Value.ownBlock]
    · intro hc
      have : g = g' := by simpa [Value.ownBlock] using hc
      subst this
      rw [hg] at hg'
      have := congrArg (fun o => match o with | some (Obj.cells _ t _) => t | _ => 0) hg'
      exact he (by simpa using this)

theorem infoU8 : (Try.prog.info? 5).map (fun i => (i.zero, i.size, i.bytes)) = some (some (.int .u8 0), 1, 1) := by kernel_rfl
theorem infoStr : (Try.prog.info? 9).map (fun i => (i.zero, i.size, i.bytes)) = some (some (.string ⟨#[]⟩), 1, 16) := by kernel_rfl

theorem row_more {W : World} {base : Nat} {v : Value} {b : List UInt8} {s : ByteArray} (h : W.ownsRow base 5 1 v (b.length + s.size) (b.map u8c ++ Lib.strCells s)) :
    W.ownsRow base 5 1 v (b ++ s.data.toList).length ((b ++ s.data.toList).map u8c) := by
  have e1 : (b ++ s.data.toList).length = b.length + s.size := by simp
  rw [e1, List.map_append]
  exact h

theorem conv_row {W : World} {base : Nat} {v : Value} {l : List UInt8} (h : W.ownsRow base 5 1 v l.length (l.map u8c)) : (convert 60 9 v).run Try.prog W = .ok (.string ⟨l.toArray⟩) W := by
  have hc := fun (g : Nat) (hg : v.ownBlock = some g) => h.cells (g := g) hg
  rcases h.2 with ⟨rfl, h0⟩ | ⟨g, cap, cur, rfl, _⟩
  · obtain rfl : l = [] := List.eq_nil_of_length_eq_zero h0
    exact run_convert_bytes_nil (P := Try.prog) W 60 5 Try.underlying60 Try.underlying5 0 0 9 Try.underlying9
  · exact run_convert_bytes_back (P := Try.prog) W 60 9 5 ⟨g, 0, none⟩ cap l Try.underlying60 Try.underlying5 Try.underlying9 (fun j hj => hc g rfl j _ (by rw [List.getElem?_map, List.getElem?_eq_getElem hj]; rfl))

theorem grown_of_below {W W' : World} (hb : Below W.heap.size W W') : W.grownBy W' none := ⟨hb.os, hb.tape, hb.output, hb.size, fun k hk _ => hb.block k hk⟩
theorem owns_below {W W' : World} {base : Nat} {e : TypeId} {size n : Nat} {v : Value} {xs : List Value} (h : W.ownsRow base e size v n xs) (hb : Below W.heap.size W W') : W'.ownsRow base e size v n xs :=
  h.kept (grown_of_below hb) (by cases v.ownBlock <;> simp)
theorem owns_apart {W W' : World} {base base' : Nat} {e e' : TypeId} {v v' : Value} {n n' : Nat} {xs xs' : List Value} (he : e ≠ e') (h : W.ownsRow base e 1 v n xs) (h' : W.ownsRow base' e' 1 v' n' xs') (hg : W.grownBy W' v'.ownBlock) : W'.ownsRow base e 1 v n xs :=
  h.kept hg (by
    by_cases hv : v.ownBlock = none
    · exact .inl hv
    · exact .inr (rows_unlike he h h' hv))

/-- what the loop keeps -/
structure JoinI (w W : World) (fs : List Fr) (i : Nat) (bs : List ByteArray) (b : List UInt8) (g : Bool) (c : Nat) (v4 v5 : Value) : Prop where
  rest : joinGo (fs.drop i) i bs b g c = joinGo fs 0 [] [] false 0
  row4 : W.ownsRow w.heap.size 9 1 v4 bs.length (bs.map .string)
  row5 : W.ownsRow w.heap.size 5 1 v5 b.length (b.map u8c)
  below : Below w.heap.size w W
  lenb : b.length ≤ 53 * i
  lens : bs.length ≤ i
  lec : c ≤ i

set_option maxRecDepth 100000 in
set_option maxHeartbeats 4000000 in
theorem join_some (b0 off c0 : Nat) (fs : List Fr) (hm : fs.length ≤ 1000000) (w : World) (hb : b0 < w.heap.size)
    (h1 : ∀ (j : Nat) (h : j < fs.length) (i : Nat) (u : Value), fs[j].cells[i]? = some u → w.cell? ⟨b0, off + (j * 4 + i), none⟩ = some u) :
    Calls Try.prog 14 #[.slice (some ⟨b0, off, none⟩) fs.length c0] w fun x w' => ∃ v, x = .returned (.tuple #[v, .int .i64 ((joinGo fs 0 [] [] false 0).2 : Nat)]) ∧
      w'.ownsRow w.heap.size 9 1 v (joinGo fs 0 [] [] false 0).1.length ((joinGo fs 0 [] [] false 0).1.map .string) ∧ Below w.heap.size w w' := by
  obtain ⟨i0, hi, hz0, hz1, hz2⟩ := info_parts infoU8
  obtain ⟨is, his, hs0, hs1, hs2⟩ := info_parts infoStr
  have H1 := Lib.hid h1; clear h1
  go_enter Try.func14, Try.ntmps14
  go_wp2
  go_step3
  go_wp2
  go_step3
  go_wp2
  go_loopw [4, 5, 6, 7, 12] (fun v4 v5 vg vc vi wr => ∃ (i : Nat) (bs : List ByteArray) (b : List UInt8) (g : Bool) (c : Nat), i ≤ fs.length ∧ vg = .bool g ∧ vc = .int .i64 (c : Int) ∧ vi = .int .i64 (i : Int) ∧ JoinI w wr fs i bs b g c v4 v5) (fun _ _ _ _ vi _ => fs.length - (intOf vi).toNat)
  case atStart => exact ⟨0, [], [], false, 0, by omega, rfl, rfl, rfl, ⟨rfl, World.ownsRow_nil _ _ _ _, World.ownsRow_nil _ _ _ _, Below.refl _ _, by simp, by simp, by omega⟩⟩
  case round =>
    obtain ⟨i, bs, b, g, c, hk, rfl, rfl, rfl, hJ⟩ := hrel
    by_cases hlt : i < fs.length
    · have c1 : ∀ j u, fs[i].cells[j]? = some u → wr.cell? ⟨b0, off + (i * 4 + j), none⟩ = some u := fun j u hu => by rw [hJ.below.cell (p := ⟨b0, off + (i * 4 + j), none⟩) hb]; exact H1.out i hlt j u hu
      have hrest := hJ.rest
      rw [List.drop_eq_getElem_cons hlt] at hrest
      generalize hf : fs[i] = f at c1 hrest
      obtain ⟨e, a, kd, s⟩ := f
      have c10 : wr.cell? ⟨b0, off + i * 4, none⟩ = some (.int .i64 e) := c1 0 _ rfl
      have c11 : wr.cell? ⟨b0, off + i * 4 + 1, none⟩ = some (.int .i64 a) := c1 1 _ rfl
      have c12 : wr.cell? ⟨b0, off + i * 4 + 2, none⟩ = some (.int .i64 kd) := c1 2 _ rfl
      have c13 : wr.cell? ⟨b0, off + i * 4 + 3, none⟩ = some (.string s) := c1 3 _ rfl
      have HR := Lib.hid hrest
      clear c1 hf hrest
      have d0 : (0 : Int) ≤ (i : Int) := by omega
      have d3 : (i : Int) < (fs.length : Int) := by omega
      have hC := hJ.below
      have r4 := hJ.row4
      have r5 := hJ.row5
      have hl1 := hJ.lenb
      have hl2 := hJ.lens
      have hl3 := hJ.lec
      clear hJ
      go_wp2_with fail
      refine (right_any e a kd s _).mono ?_
      rintro x W ⟨rfl, hBW⟩
      have hz := hC.size
      have hA : Below wr.heap.size wr W := ((Below.refl _ wr).alloc (Nat.le_refl _) _).trans (hBW.mono (by simp))
      replace hC := hC.trans (hA.mono hz)
      replace r4 := owns_below r4 hA
      replace r5 := owns_below r5 hA
      have hbox : W.heap[wr.heap.size]? = some (.cells #[.int .i64 e, .int .i64 a, .int .i64 kd, .string s] 34 (0, 0)) := (hBW.block _ (by simp)).trans (World.alloc_heap_new wr _)
      have g2 : W.cell? ⟨wr.heap.size, 2, none⟩ = some (.int .i64 kd) := cell_of_row _ _ 2 _ _ (0, 0) hbox
      have g3 : W.cell? ⟨wr.heap.size, 3, none⟩ = some (.string s) := cell_of_row _ _ 3 _ _ (0, 0) hbox
      clear hBW hA hbox c10 c11 c12 c13
      generalize wr.heap.size = B at g2 g3 hz ⊢
      have hz2' : w.heap.size ≤ W.heap.size := hC.size
      cases hr : Frame.right e a kd s.data.toList with
      | false =>
        have hj : (bs, c) = joinGo fs 0 [] [] false 0 := by rw [← HR.out, joinGo, if_pos (.inl hr)]
        have HJ := Lib.hid hj
        clear hj hr HR
        go_wp2_with fail
        rw [Exit.noGoto_ret]
        go_ret2
        exact ⟨_, by rw [← HJ.out]; rfl, by rw [← HJ.out]; exact r4, hC⟩
      | true =>
        have hkd : 1 ≤ kd ∧ kd ≤ 4 ∧ s.size ≤ 53 := by
          have := hr
          unfold Frame.right at this
          rw [decide_eq_true_eq] at this
          simp at this
          omega
        obtain ⟨hk1, hk4, hs⟩ := hkd
        have nr : ¬ Frame.right e a kd s.data.toList = false := by rw [hr]; simp
        have hstep : joinGo (⟨e, a, kd, s⟩ :: fs.drop (i + 1)) i bs b g c = if kd = 1 ∨ (kd = 4 ∧ g = true) then (bs, c) else if kd = 4 then joinGo (fs.drop (i + 1)) (i + 1) bs b g (i + 1)
            else if kd = 2 then joinGo (fs.drop (i + 1)) (i + 1) bs (b ++ s.data.toList) true c else joinGo (fs.drop (i + 1)) (i + 1) (bs ++ [⟨(b ++ s.data.toList).toArray⟩]) [] false (i + 1) := by
          rw [joinGo]
          simp only [hr, false_or, Bool.true_eq_false]
        rw [hstep] at HR
        clear hstep nr hr
        by_cases q1 : kd = 1
        · subst q1
          have hj : (bs, c) = joinGo fs 0 [] [] false 0 := by rw [← HR.out, if_pos (.inl rfl)]
          have HJ := Lib.hid hj
          clear hj HR
          go_wp2_with fail
          rw [Exit.noGoto_ret]
          go_ret2
          exact ⟨_, by rw [← HJ.out]; rfl, by rw [← HJ.out]; exact r4, hC⟩
        · by_cases q4 : kd = 4
          · subst q4
            cases g with
            | true =>
              have hj : (bs, c) = joinGo fs 0 [] [] false 0 := by rw [← HR.out, if_pos (.inr ⟨rfl, rfl⟩)]
              have HJ := Lib.hid hj
              clear hj HR
              go_wp2_with fail
              rw [Exit.noGoto_ret]
              go_ret2
              exact ⟨_, by rw [← HJ.out]; rfl, by rw [← HJ.out]; exact r4, hC⟩
            | false =>
              have hj : joinGo (fs.drop (i + 1)) (i + 1) bs b false (i + 1) = joinGo fs 0 [] [] false 0 := by rw [← HR.out, if_neg (by simp), if_pos rfl]
              have HJ := Lib.hid hj
              clear hj HR
              go_wp2_with fail
              exact ⟨⟨i + 1, bs, b, false, i + 1, by omega, rfl, by go_num, by go_num, ⟨HJ.out, r4, r5, hC, by omega, by omega, by omega⟩⟩, by simp [intOf]; omega⟩
          · by_cases q2 : kd = 2
            · subst q2
              have hj : joinGo (fs.drop (i + 1)) (i + 1) bs (b ++ s.data.toList) true c = joinGo fs 0 [] [] false 0 := by rw [← HR.out, if_neg (by simp), if_neg (by decide), if_pos rfl]
              have HJ := Lib.hid hj
              clear hj HR
              go_wp2_with (at_builtin; refine Lib.wpList_append_own_string _ rfl _ _ _ _ rfl w.heap.size 5 i0 Try.underlying60 Try.underlying9 hi hz0 hz1 hz2 _ b.length _ rfl r5 s rfl (by simp [maxLen]; omega) (by omega) hz2' ?_; intro v5 w5 hown hgrow _)
              have r4' := owns_apart (by decide) r4 r5 hgrow
              have r5' : w5.ownsRow w.heap.size 5 1 v5 (b ++ s.data.toList).length ((b ++ s.data.toList).map u8c) := by
                have e1 : (b ++ s.data.toList).length = b.length + s.size := by simp
                rw [e1, List.map_append]
                exact hown
              have hC' := hC.grown hgrow hz2' (fun q hq => (r5.lt q hq).1)
              exact ⟨⟨i + 1, bs, b ++ s.data.toList, true, c, by omega, rfl, rfl, by go_num, ⟨HJ.out, r4', r5', hC', by simp; omega, by omega, by omega⟩⟩, by simp [intOf]; omega⟩
            · obtain rfl : kd = 3 := by omega
              have hj : joinGo (fs.drop (i + 1)) (i + 1) (bs ++ [⟨(b ++ s.data.toList).toArray⟩]) [] false (i + 1) = joinGo fs 0 [] [] false 0 := by rw [← HR.out, if_neg (by simp), if_neg (by decide), if_neg (by decide)]
              have HJ := Lib.hid hj
              clear hj HR
              go_wp2_with (first
                | (at_builtin; refine Lib.wpList_append_own_string _ rfl _ _ _ _ rfl w.heap.size 5 i0 Try.underlying60 Try.underlying9 hi hz0 hz1 hz2 _ b.length _ rfl r5 s rfl (by simp [maxLen]; omega) (by omega) hz2' ?_; intro v5 w5 hown hgrow _; have r4' := owns_apart (by decide) r4 r5 hgrow; have r5' := row_more hown; have hC' := hC.grown hgrow hz2' (fun q hq => (r5.lt q hq).1); have hz5 := hC'.size; have hcv := conv_row r5'; clear r5 r4 hown hgrow)
                | (at_builtin; refine wpList_append_lies _ rfl _ _ _ rfl w.heap.size 9 is _ 1 16 Try.underlying22 his hs0 hs1 hs2 rfl (by omega) _ bs.length _ rfl (r4'.alloc _) ⟨w5.heap.size, 0, none⟩ 1 1 [.string ⟨(b ++ s.data.toList).toArray⟩] rfl rfl (World.news_of_block (cs := #[.string ⟨(b ++ s.data.toList).toArray⟩]) (t := 9) (fr := (0, 0)) (World.alloc_heap_new w5 _)) (by simp [Value.oneCell']) (by omega) (by simp [maxLen]; omega) (by omega) (by simp; omega) (w5.heap.size + 1) (by simp) ?_; intro gg cap w6 hown6 hgrow6 hat hlt6))
              have hC6 : Below w.heap.size w w6 := (hC'.alloc hz5 _).grown hgrow6 (by simp; omega) (fun q hq => (r4'.lt q hq).1)
              have r6 : w6.ownsRow w.heap.size 9 1 (.slice (some ⟨gg, 0, none⟩) (bs.length + 1) cap) (bs ++ [(⟨(b ++ s.data.toList).toArray⟩ : ByteArray)]).length ((bs ++ [(⟨(b ++ s.data.toList).toArray⟩ : ByteArray)]).map .string) := by
                have e1 : (bs ++ [(⟨(b ++ s.data.toList).toArray⟩ : ByteArray)]).length = bs.length + 1 := by simp
                rw [e1, List.map_append]
                exact hown6
              exact ⟨⟨i + 1, bs ++ [⟨(b ++ s.data.toList).toArray⟩], [], false, i + 1, by omega, rfl, by go_num, by go_num, ⟨HJ.out, r6, World.ownsRow_nil _ _ _ _, hC6, by simp, by simp; omega, by omega⟩⟩, by simp [intOf]; omega⟩
    · obtain rfl : i = fs.length := by omega
      have hr := hJ.rest
      rw [List.drop_eq_nil_of_le (Nat.le_refl _)] at hr
      have HR := Lib.hid hr; clear hr
      go_wp2
      rw [Exit.noGoto_ret]
      go_ret2
      exact ⟨_, by rw [← HR.out]; rfl, by rw [← HR.out]; exact hJ.row4, hJ.below⟩
end Go.Proofs.Ytnoegbogalfdgaa

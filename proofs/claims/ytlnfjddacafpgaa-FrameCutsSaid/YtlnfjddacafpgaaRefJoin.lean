/- The reference's Join. -/
import Derived.Test.YtlnfjddacafpgaaRefSum
import Derived.Test.YtlnfjddacafpgaaFrameJoinsLaw
import Derived.Test.YtlnfjddacafpgaaFrameBackLaw
namespace Go.Proofs.Ytlnfjddacafpgaa
open Go Go.RowKit

/-- what the loop keeps -/
structure RJ (w W : World) (fs : List Fr) (i : Nat) (bs : List ByteArray) (S : ByteArray) (g : Bool) (c : Nat) (v4 : Value) : Prop where
  rest : joinGo (fs.drop i) i bs S.data.toList g c = joinGo fs 0 [] [] false 0
  row4 : W.ownsRow w.heap.size 9 1 v4 bs.length (bs.map .string)
  below : Below w.heap.size w W
  lenb : S.size ≤ 53 * i
  lens : bs.length ≤ i
  lec : c ≤ i

theorem append_list (S s : ByteArray) : (S ++ s).data.toList = S.data.toList ++ s.data.toList := by simp
theorem of_list (S : ByteArray) (l : List UInt8) (h : S.data.toList = l) : S = ⟨l.toArray⟩ := by
  apply ByteArray.ext; apply Array.toList_inj.1; rw [h]

set_option maxRecDepth 100000 in
set_option maxHeartbeats 4000000 in
theorem refJoin_some (b0 off c0 : Nat) (fs : List Fr) (hm : fs.length ≤ 1000000) (w : World) (hb : b0 < w.heap.size)
    (h1 : ∀ (j : Nat) (h : j < fs.length) (i : Nat) (u : Value), fs[j].cells[i]? = some u → w.cell? ⟨b0, off + (j * 4 + i), none⟩ = some u) :
    Calls Try.prog 22 #[.slice (some ⟨b0, off, none⟩) fs.length c0] w fun x w' => ∃ v, x = .returned (.tuple #[v, .int .i64 ((joinGo fs 0 [] [] false 0).2 : Nat)]) ∧
      w'.ownsRow w.heap.size 9 1 v (joinGo fs 0 [] [] false 0).1.length ((joinGo fs 0 [] [] false 0).1.map .string) ∧ Below w.heap.size w w' := by
  obtain ⟨is, his, hs0, hs1, hs2⟩ := info_parts infoStr
  have H1 := Lib.hid h1; clear h1
  go_enter Try.func22, Try.ntmps22
  go_wp2
  go_loopw [4, 5, 6, 7, 8] (fun v4 v5 v6 v7 v8 wr => ∃ (i : Nat) (bs : List ByteArray) (S : ByteArray) (g : Bool) (c : Nat), i ≤ fs.length ∧ v5 = .bool g ∧ v6 = .string S ∧ v7 = .int .i64 (c : Int) ∧ v8 = .int .i64 (i : Int) ∧ RJ w wr fs i bs S g c v4) (fun _ _ _ _ v8 _ => fs.length - (intOf v8).toNat)
  case atStart => exact ⟨0, [], ⟨#[]⟩, false, 0, by omega, rfl, rfl, rfl, rfl, ⟨rfl, World.ownsRow_nil _ _ _ _, Below.refl _ _, Nat.zero_le _, by simp, by omega⟩⟩
  case round =>
    obtain ⟨i, bs, S, g, c, hk, rfl, rfl, rfl, rfl, hJ⟩ := hrel
    by_cases hlt : i < fs.length
    · have c1 : ∀ j u, fs[i].cells[j]? = some u → wr.cell? ⟨b0, off + (i * 4 + j), none⟩ = some u := fun j u hu => by rw [hJ.below.cell (p := ⟨b0, off + (i * 4 + j), none⟩) hb]; exact H1.out i hlt j u hu
      have hrest := hJ.rest
      rw [List.drop_eq_getElem_cons hlt] at hrest
      generalize hf : fs[i] = f at c1 hrest
      obtain ⟨e, a, kd, s⟩ := f
      have c10 : wr.cell? ⟨b0, off + i * 4, none⟩ = some (.int .i64 e) := c1 0 _ rfl
      have c11 : wr.cell? ⟨b0, off + i * 4 + 1, none⟩ = some (.int .i64 a) := c1 1 _ rfl
      have c12 : wr.cell? ⟨b0, off + i * 4 + 2, none⟩ = some (.int .i64 kd) := c1 2 _ rfl
      have c13 : wr.cell? ⟨b0, off + i * 4 + 3, none⟩ = some (.string s) := c1 3 _ rfl
      have HR := Lib.hid hrest
      clear c1 hf hrest
      have d0 : (0 : Int) ≤ (i : Int) := by omega
      have d3 : (i : Int) < (fs.length : Int) := by omega
      have hC := hJ.below
      have r4 := hJ.row4
      have hl1 := hJ.lenb
      have hl2 := hJ.lens
      have hl3 := hJ.lec
      clear hJ
      go_wp2_with fail
      have hF := FBox.new wr e a kd s
      refine (refRight_any e a kd s _).mono ?_
      rintro x W ⟨rfl, hBW⟩
      replace hF := hF.below hBW
      have hz := hC.size
      have hA : Below wr.heap.size wr W := ((Below.refl _ wr).alloc (Nat.le_refl _) _).trans (hBW.mono (by simp))
      replace hC := hC.trans (hA.mono hz)
      replace r4 := owned_below r4 hA
      have g2 := hF.c2
      have g3 := hF.c3
      clear hBW hA hF c10 c11 c12 c13
      generalize wr.heap.size = B at g2 g3 hz ⊢
      have hz2' : w.heap.size ≤ W.heap.size := hC.size
      cases hr : Frame.right e a kd s.data.toList with
      | false =>
        have hj : (bs, c) = joinGo fs 0 [] [] false 0 := by rw [← HR.out, joinGo, if_pos (.inl hr)]
        have HJ := Lib.hid hj
        clear hj hr HR
        go_wp2_with fail
        go_ret2
        exact ⟨_, by rw [← HJ.out]; rfl, by rw [← HJ.out]; exact r4, hC⟩
      | true =>
        have hkd : 1 ≤ kd ∧ kd ≤ 4 ∧ s.size ≤ 53 := by
          have := hr
          unfold Frame.right at this
          rw [decide_eq_true_eq] at this
          simp at this
          omega
        obtain ⟨hk1, hk4, hs⟩ := hkd
        have hstep : joinGo (⟨e, a, kd, s⟩ :: fs.drop (i + 1)) i bs S.data.toList g c = if kd = 1 ∨ (kd = 4 ∧ g = true) then (bs, c) else if kd = 4 then joinGo (fs.drop (i + 1)) (i + 1) bs S.data.toList g (i + 1)
            else if kd = 2 then joinGo (fs.drop (i + 1)) (i + 1) bs (S.data.toList ++ s.data.toList) true c else joinGo (fs.drop (i + 1)) (i + 1) (bs ++ [⟨(S.data.toList ++ s.data.toList).toArray⟩]) [] false (i + 1) := by
          rw [joinGo]
          simp only [hr, false_or, Bool.true_eq_false]
        rw [hstep] at HR
        clear hstep hr
        by_cases q1 : kd = 1
        · subst q1
          have hj : (bs, c) = joinGo fs 0 [] [] false 0 := by rw [← HR.out, if_pos (.inl rfl)]
          have HJ := Lib.hid hj
          clear hj HR
          go_wp2_with fail
          go_ret2
          exact ⟨_, by rw [← HJ.out]; rfl, by rw [← HJ.out]; exact r4, hC⟩
        · by_cases q4 : kd = 4
          · subst q4
            cases g with
            | true =>
              have hj : (bs, c) = joinGo fs 0 [] [] false 0 := by rw [← HR.out, if_pos (.inr ⟨rfl, rfl⟩)]
              have HJ := Lib.hid hj
              clear hj HR
              go_wp2_with fail
              go_ret2
              exact ⟨_, by rw [← HJ.out]; rfl, by rw [← HJ.out]; exact r4, hC⟩
            | false =>
              have hj : joinGo (fs.drop (i + 1)) (i + 1) bs S.data.toList false (i + 1) = joinGo fs 0 [] [] false 0 := by rw [← HR.out, if_neg (by simp), if_pos rfl]
              have HJ := Lib.hid hj
              clear hj HR
              go_wp2_with fail
              exact ⟨⟨i + 1, bs, S, false, i + 1, by omega, rfl, rfl, by go_num, by go_num, ⟨HJ.out, r4, hC, by omega, by omega, by omega⟩⟩, by simp [intOf]; omega⟩
          · have z1 : S.size + s.size ≤ 9223372036854775807 := by omega
            have z2 : ¬ 9223372036854775807 < S.size + s.size := by omega
            have z3 := append_list S s
            have z4 : (S ++ s).size ≤ 53 * (i + 1) := by rw [ByteArray.size_append]; omega
            by_cases q2 : kd = 2
            · subst q2
              have hj : joinGo (fs.drop (i + 1)) (i + 1) bs (S ++ s).data.toList true c = joinGo fs 0 [] [] false 0 := by rw [← HR.out, if_neg (by simp), if_neg (by decide), if_pos rfl, z3]
              have HJ := Lib.hid hj
              clear hj HR z3
              go_wp2_with fail
              exact ⟨⟨i + 1, bs, S ++ s, true, c, by omega, rfl, rfl, rfl, by go_num, ⟨HJ.out, r4, hC, z4, by omega, by omega⟩⟩, by simp [intOf]; omega⟩
            · obtain rfl : kd = 3 := by omega
              have hj : joinGo (fs.drop (i + 1)) (i + 1) (bs ++ [S ++ s]) [] false (i + 1) = joinGo fs 0 [] [] false 0 := by rw [← HR.out, if_neg (by simp), if_neg (by decide), if_neg (by decide), ← z3, ← of_list (S ++ s) _ rfl]
              have HJ := Lib.hid hj
              clear hj HR z3
              go_wp2_with (at_builtin; refine wpList_append_lies _ rfl _ _ _ rfl w.heap.size 9 is _ 1 16 Try.underlying38 his hs0 hs1 hs2 rfl (by omega) _ bs.length _ rfl (r4.alloc _) ⟨W.heap.size, 0, none⟩ 1 1 [.string (S ++ s)] rfl rfl (World.news_of_block (cs := #[.string (S ++ s)]) (t := 9) (fr := (0, 0)) (World.alloc_heap_new W _)) (by simp [Value.oneCell']) (by omega) (by simp [maxLen]; omega) (by omega) (by simp; omega) (W.heap.size + 1) (by simp) ?_; intro gg cap w6 hown6 hgrow6 hat hlt6)
              have hC6 : Below w.heap.size w w6 := (hC.alloc hz2' _).grown hgrow6 (by simp; omega) (fun q hq => (r4.lt q hq).1)
              have r6 : w6.ownsRow w.heap.size 9 1 (.slice (some ⟨gg, 0, none⟩) (bs.length + 1) cap) (bs ++ [S ++ s]).length ((bs ++ [S ++ s]).map .string) := by
                have e1 : (bs ++ [S ++ s]).length = bs.length + 1 := by simp
                rw [e1, List.map_append]
                exact hown6
              exact ⟨⟨i + 1, bs ++ [S ++ s], ⟨#[]⟩, false, i + 1, by omega, rfl, rfl, by go_num, by go_num, ⟨HJ.out, r6, hC6, Nat.zero_le _, by simp; omega, by omega⟩⟩, by simp [intOf]; omega⟩
    · obtain rfl : i = fs.length := by omega
      have hr := hJ.rest
      rw [List.drop_eq_nil_of_le (Nat.le_refl _)] at hr
      have HR := Lib.hid hr; clear hr
      go_wp2
      go_ret2
      exact ⟨_, by rw [← HR.out]; rfl, by rw [← HR.out]; exact hJ.row4, hJ.below⟩

theorem refJoin_zero (p : Option Addr) (c : Nat) (w : World) :
    Calls Try.prog 22 #[.slice p 0 c] w fun x w' => x = .returned (.tuple #[.slice none 0 0, .int .i64 0]) ∧ w = w' := by
  go_enter Try.func22, Try.ntmps22
  go_wp2
  go_loopw [4, 7, 8] (fun v4 v7 i wr => v4 = .slice none 0 0 ∧ v7 = .int .i64 0 ∧ i = .int .i64 0 ∧ w = wr) (fun _ _ _ _ => 0)
  case atStart => exact ⟨rfl, rfl, rfl, rfl⟩
  case round =>
    obtain ⟨rfl, rfl, rfl, rfl⟩ := hrel
    go_wp2
    go_ret2
    exact ⟨rfl, rfl⟩

theorem refJoin_lies {p : Option Addr} {n c : Nat} (fs : List Fr) (hm : fs.length ≤ 1000000) (w : World) (h : Lies w (.slice p n c) n 4 (fs.flatMap Fr.cells)) :
    Calls Try.prog 22 #[.slice p n c] w fun x w' => ∃ v, x = .returned (.tuple #[v, .int .i64 ((joinGo fs 0 [] [] false 0).2 : Nat)]) ∧
      w'.ownsRow w.heap.size 9 1 v (joinGo fs 0 [] [] false 0).1.length ((joinGo fs 0 [] [] false 0).1.map .string) ∧ Below w.heap.size w w' := by
  have hl := h.1
  rw [cells_len] at hl
  rcases h.2 with ⟨h0, _⟩ | ⟨b, off, c', hv, hlt, hc⟩
  · subst h0
    obtain rfl : fs = [] := List.eq_nil_of_length_eq_zero (by omega)
    refine (refJoin_zero p c w).mono ?_
    rintro x w' ⟨rfl, rfl⟩
    exact ⟨_, rfl, World.ownsRow_nil _ _ _ _, Below.refl _ _⟩
  · simp at hv
    obtain ⟨rfl, rfl⟩ := hv
    obtain rfl : n = fs.length := by omega
    exact refJoin_some b off c fs hm w hlt (fun j h i u hu => hc (j * 4 + i) u (by rw [flat_at fs j h i (cells_lt hu)]; exact hu))
end Go.Proofs.Ytlnfjddacafpgaa

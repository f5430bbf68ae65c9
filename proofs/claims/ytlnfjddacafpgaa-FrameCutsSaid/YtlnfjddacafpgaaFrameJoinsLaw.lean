/- The walk of FrameJoins. -/
import Derived.Test.YtlnfjddacafpgaaFrameJoinsMath
import Derived.Test.YtlnfjddacafpgaaFrameExamples
import Derived.Test.YtlnfjddacafpgaaOwned
namespace Go.Proofs.Ytlnfjddacafpgaa
open Go Go.RowKit

theorem infoInt : (Try.prog.info? 3).map (fun i => (i.zero, i.size, i.bytes)) = some (some (.int .i64 0), 1, 8) := by kernel_rfl

theorem join_zero (p : Option Addr) (c : Nat) (w : World) :
    Calls Try.prog 21 #[.slice p 0 c] w fun x w' => x = .returned (.tuple #[.slice none 0 0, .int .i64 0]) ∧ w = w' := by
  go_enter Try.func21, Try.ntmps21
  go_wp2
  go_step3
  go_wp2
  go_step3
  go_wp2
  go_loopw [4, 7, 12] (fun v4 v7 i wr => v4 = .slice none 0 0 ∧ v7 = .int .i64 0 ∧ i = .int .i64 0 ∧ w = wr) (fun _ _ _ _ => 0)
  case atStart => exact ⟨rfl, rfl, rfl, rfl⟩
  case round =>
    obtain ⟨rfl, rfl, rfl, rfl⟩ := hrel
    go_wp2
    rw [Exit.noGoto_ret]
    go_ret2
    exact ⟨rfl, rfl⟩

theorem parts_frames (x : Item) : Frame.parts 3 x.at' x.n x.s x.n = ((List.range x.n).map (frOf x)).flatMap Fr.cells := by
  unfold Frame.parts
  rw [List.flatMap_map]
  rfl
theorem total_le {l : List Item} (h : ∀ x ∈ l, x.n ≤ 6) : total l ≤ 7 * l.length := by
  induction l with
  | nil => simp [total]
  | cons x r ih =>
    have ht : total (x :: r) = x.len + total r := by simp [total]
    have h1 := ih (fun y hy => h y (List.mem_cons_of_mem _ hy))
    have h2 := h x List.mem_cons_self
    have h3 : x.len ≤ x.n + 1 := by unfold Item.len; split <;> omega
    rw [ht, List.length_cons]; omega
theorem total_snoc (l : List Item) (x : Item) : total (l ++ [x]) = total l + x.len := by simp [total]

/-- what the loop keeps -/
structure JI (w W : World) (l : List Item) (v8 v9 v10 : Value) : Prop where
  good : ∀ x ∈ l, x.good
  len : ∀ x ∈ l, x.n ≤ 6
  r8 : W.ownsRow w.heap.size 23 4 v8 (total l) ((l.flatMap Item.frames).flatMap Fr.cells)
  r9 : W.ownsRow w.heap.size 9 1 v9 l.length ((l.map Item.s).map .string)
  r10 : W.ownsRow w.heap.size 3 1 v10 l.length ((ends l 0).map (fun e : Nat => Value.int .i64 (e : Int)))
  below : Below w.heap.size w W
theorem JI.more {w W W' : World} {l : List Item} {v8 v9 v10 : Value} (h : JI w W l v8 v9 v10) (hb : Below W.heap.size W W') : JI w W' l v8 v9 v10 :=
  ⟨h.good, h.len, owned_below h.r8 hb, owned_below h.r9 hb, owned_below h.r10 hb, h.below.trans (hb.mono h.below.size)⟩

theorem row_slice {W : World} {base n size : Nat} {e : TypeId} {v : Value} {xs : List Value} (h : W.ownsRow base e size v n xs) : ∃ p c, v = .slice p n c := by
  rcases h.2 with ⟨rfl, rfl⟩ | ⟨g, cap, cur, rfl, _⟩
  · exact ⟨_, _, rfl⟩
  · exact ⟨_, _, rfl⟩
theorem parts_one (e a n : Nat) (s : ByteArray) (m : Nat) : ∀ u ∈ Frame.parts e a n s m, u.oneCell' = true := fun u hu => by
  unfold Frame.parts at hu
  obtain ⟨i, _, hi⟩ := List.mem_flatMap.1 hu
  exact part_one e a n s i u hi
theorem cell_lt {W : World} {b o : Nat} {v : Value} (h : W.cell? ⟨b, o, none⟩ = some v) : b < W.heap.size := by
  rcases Nat.lt_or_ge b W.heap.size with hlt | hge
  · exact hlt
  · exfalso
    unfold World.cell? at h
    rw [Array.getElem?_eq_none hge] at h
    simp at h
theorem row_slice' {W : World} {base n size : Nat} {e : TypeId} {v : Value} {xs : List Value} (h : W.ownsRow base e size v n xs) : ∃ p c, v = .slice p n c ∧ n ≤ c ∧ c ≤ maxLen := by
  rcases h.2 with ⟨rfl, rfl⟩ | ⟨g, cap, cur, rfl, _, _, h1, h2, _⟩
  · exact ⟨_, _, rfl, Nat.le_refl _, by unfold maxLen; omega⟩
  · exact ⟨_, _, rfl, h1, h2⟩
theorem row_form {W : World} {base n size : Nat} {e : TypeId} {v : Value} {xs : List Value} (h : W.ownsRow base e size v n xs) : (v = .slice none 0 0 ∧ n = 0) ∨ ∃ g c, v = .slice (some ⟨g, 0, none⟩) n c ∧ n ≤ c ∧ c ≤ maxLen := by
  rcases h.2 with h | ⟨g, cap, cur, rfl, _, _, h1, h2, _⟩
  · exact .inl h
  · exact .inr ⟨g, cap, rfl, h1, h2⟩
theorem Lies.cut {W : World} {p : Option Addr} {n c size k : Nat} {xs : List Value} (h : Lies W (.slice p n c) n size xs) (hk : k ≤ n) : Lies W (.slice p k c) k size (xs.take (k * size)) := by
  obtain ⟨h1, h2⟩ := h
  refine ⟨by rw [List.length_take, h1]; exact Nat.min_eq_left (Nat.mul_le_mul_right _ hk), ?_⟩
  rcases h2 with ⟨h0, p', c', hv⟩ | ⟨b, off, c', hv, hlt, hc⟩
  · have : k = 0 := by omega
    subst this
    exact .inl ⟨rfl, p, c, rfl⟩
  · simp at hv
    refine .inr ⟨b, off, c, by rw [hv.1], hlt, fun j u hu => hc j u ?_⟩
    rw [List.getElem?_take] at hu
    split at hu
    · exact hu
    · cases hu
theorem cells_take (fs : List Fr) (k : Nat) : (fs.flatMap Fr.cells).take (k * 4) = (fs.take k).flatMap Fr.cells := by
  induction fs generalizing k with
  | nil => simp
  | cons f r ih =>
    cases k with
    | zero => simp
    | succ k =>
      have hl : f.cells.length = 4 := rfl
      rw [List.take_succ_cons, List.flatMap_cons, List.flatMap_cons, ← ih k, List.take_append, List.take_of_length_le (by omega), hl]
      congr 2; omega
theorem cells_len (fs : List Fr) : (fs.flatMap Fr.cells).length = 4 * fs.length := by
  induction fs with
  | nil => rfl
  | cons f r ih =>
    have hl : f.cells.length = 4 := rfl
    rw [List.flatMap_cons, List.length_append, ih, hl, List.length_cons]; omega
theorem join_lies {p : Option Addr} {n c : Nat} (fs : List Fr) (hm : fs.length ≤ 1000000) (w : World) (h : Lies w (.slice p n c) n 4 (fs.flatMap Fr.cells)) :
    Calls Try.prog 21 #[.slice p n c] w fun x w' => ∃ v, x = .returned (.tuple #[v, .int .i64 ((joinGo fs 0 [] [] false 0).2 : Nat)]) ∧
      w'.ownsRow w.heap.size 9 1 v (joinGo fs 0 [] [] false 0).1.length ((joinGo fs 0 [] [] false 0).1.map .string) ∧ Below w.heap.size w w' := by
  rcases Nat.eq_zero_or_pos n with rfl | hn
  · have hl := h.1
    rw [cells_len] at hl
    obtain rfl : fs = [] := List.eq_nil_of_length_eq_zero (by omega)
    refine (join_zero p c w).mono ?_
    rintro x w' ⟨rfl, rfl⟩
    exact ⟨_, rfl, World.ownsRow_nil _ _ _ _, Below.refl _ _⟩
  · exact join_any fs hm hn w h

/-- one batch more -/
theorem JI.snoc {w W : World} {l : List Item} {x : Item} {v8 v9 v10 : Value} (hg : ∀ y ∈ l, y.good) (hl : ∀ y ∈ l, y.n ≤ 6) (hx : x.good) (hx6 : x.n ≤ 6)
    (r8 : W.ownsRow w.heap.size 23 4 v8 (total l + x.len) ((l.flatMap Item.frames).flatMap Fr.cells ++ x.frames.flatMap Fr.cells))
    (r9 : W.ownsRow w.heap.size 9 1 v9 (l.length + 1) ((l.map Item.s).map .string ++ [.string x.s]))
    (r10 : W.ownsRow w.heap.size 3 1 v10 (l.length + 1) ((ends l 0).map (fun e : Nat => Value.int .i64 (e : Int)) ++ [.int .i64 ((total l + x.n : Nat) : Int)])) (hb : Below w.heap.size w W) : JI w W (l ++ [x]) v8 v9 v10 := by
  refine ⟨fun y hy => ?_, fun y hy => ?_, ?_, ?_, ?_, hb⟩
  · rcases List.mem_append.1 hy with h | h
    · exact hg y h
    · rw [List.mem_singleton.1 h]; exact hx
  · rcases List.mem_append.1 hy with h | h
    · exact hl y h
    · rw [List.mem_singleton.1 h]; exact hx6
  · rw [total_snoc, List.flatMap_append, List.flatMap_append]
    simpa using r8
  · simpa using r9
  · rw [ends_snoc, List.map_append]
    simpa using r10

set_option maxRecDepth 100000 in
set_option maxHeartbeats 4000000 in
theorem frameJoins_walk (b0 : Option Addr) (n0 c0 : Nat) (xs0 : List ByteArray) (b1 : Option Addr) (n1 c1 : Nat) (xs1 : List Int) (cut : Int) (w : World) (hn0 : xs0.length = n0) (hc0 : n0 ≤ c0) (hm0 : c0 ≤ maxLen) (hL0 : Lies w (.slice b0 n0 c0) n0 1 (xs0.map .string)) (hg0 : ∀ s ∈ xs0, s.size ≤ maxLen)
    (hn1 : xs1.length = n1) (hc1 : n1 ≤ c1) (hm1 : c1 ≤ maxLen) (hL1 : Lies w (.slice b1 n1 c1) n1 1 (xs1.map (Value.int .u8))) (hg1 : ∀ x ∈ xs1, 0 ≤ x ∧ x ≤ 255) (hcut : 0 ≤ cut ∧ cut ≤ 255) :
    Calls Try.prog 7 #[.slice b0 n0 c0, .slice b1 n1 c1, .int .u8 cut] w fun x w' => x = .returned (.bool true) ∧ Below w.heap.size w w' := by
  unfold maxLen at hm0 hm1
  obtain ⟨K, rfl⟩ : ∃ K : Nat, cut = (K : Int) := ⟨cut.toNat, by omega⟩
  have hA : ∀ k, k < n0 → ∃ b off s, b0 = some ⟨b, off, none⟩ ∧ b < w.heap.size ∧ s.size ≤ maxLen ∧ w.cell? ⟨b, off + k, none⟩ = some (.string s) := fun k hk => by
    rcases hL0.2 with ⟨h0, _⟩ | ⟨b, off, c, hv, hlt, hc⟩
    · omega
    · simp at hv
      refine ⟨b, off, xs0[k], hv.1, hlt, hg0 _ (List.getElem_mem _), hc k _ ?_⟩
      rw [List.getElem?_map, List.getElem?_eq_getElem (by omega)]; rfl
  have hS : ∀ k, k < n1 → ∃ b off x, b1 = some ⟨b, off, none⟩ ∧ b < w.heap.size ∧ (0 ≤ x ∧ x ≤ 255) ∧ w.cell? ⟨b, off + k, none⟩ = some (.int .u8 x) := fun k hk => by
    rcases hL1.2 with ⟨h0, _⟩ | ⟨b, off, c, hv, hlt, hc⟩
    · omega
    · simp at hv
      refine ⟨b, off, xs1[k], hv.1, hlt, hg1 _ (List.getElem_mem _), hc k _ ?_⟩
      rw [List.getElem?_map, List.getElem?_eq_getElem (by omega)]; rfl
  have HA := Lib.hid hA
  have HS := Lib.hid hS
  clear hA hS hL0 hL1 hg0 hg1 hn0 hn1 xs0 xs1
  obtain ⟨i0, hi, hz0, hz1, hz2⟩ := info_parts infoFrame
  obtain ⟨is, his, hs0, hs1, hs2⟩ := info_parts infoStr
  obtain ⟨ii, hii, hi0, hi1, hi2⟩ := info_parts infoInt
  go_enter Try.func7, Try.ntmps7
  go_wp2_with fail
  refine (examples_any _).mono ?_
  rintro x w1 ⟨rfl, hB⟩
  go_wp2
  go_loopw [8, 9, 10, 11] (fun v8 v9 v10 vi wr => ∃ l : List Item, JI w wr l v8 v9 v10 ∧ vi = .int .i64 (l.length : Int) ∧ l.length ≤ n0 ∧ l.length ≤ 8) (fun _ _ _ vi _ => 8 - (intOf vi).toNat)
  case atStart => exact ⟨[], ⟨by simp, by simp, World.ownsRow_nil _ _ _ _, World.ownsRow_nil _ _ _ _, World.ownsRow_nil _ _ _ _, hB⟩, rfl, by simp, by simp⟩
  case round =>
    obtain ⟨l, hJ, rfl, hl0, hl8⟩ := hrel
    by_cases hlt : l.length < n0 ∧ l.length < 8
    · obtain ⟨hk0, hk8⟩ := hlt
      obtain ⟨b, off, s, hb0, hbl, hsz, hcell⟩ := HA.out l.length hk0
      unfold maxLen at hsz
      subst hb0
      have cs : wr.cell? ⟨b, off + l.length, none⟩ = some (.string s) := by rw [hJ.below.cell (p := ⟨b, off + l.length, none⟩) hbl]; exact hcell
      clear hcell
      have d0 : (0 : Int) ≤ (l.length : Int) := by omega
      have d1 : (l.length : Int) < (n0 : Int) := by omega
      have d2 : (l.length : Int) < 8 := by omega
      have hT := total_le hJ.len
      obtain ⟨k, hk⟩ : ∃ k, k = l.length := ⟨_, rfl⟩
      rw [← hk] at cs d0 d1 d2 hT hk0 hk8 ⊢
      have HK := Lib.hid hk
      have HJ := Lib.hid hJ
      clear hk hJ hl0 hl8
      have hr9 := HJ.out.r9
      have hr8 := HJ.out.r8
      obtain ⟨p8, c8, hv8⟩ := row_slice hr8
      subst hv8
      clear hr8 hr9
      have hone : ∃ tx : ByteArray, tx.size ≤ 300 ∧ tx = if 300 < s.size then s.extract 0 300 else s := by
        refine ⟨_, ?_, rfl⟩
        split
        · rw [ByteArray.size_extract]; omega
        · omega
      obtain ⟨tx, htx, hte⟩ := hone
      have HTE := Lib.hid hte; clear hte
      by_cases hm : 300 < s.size
      all_goals
        first
          | (have m1 : (300 : Int) < (s.size : Int) := by omega
             have m2 : (300 : Int) ≤ (s.size : Int) := by omega
             go_wp2_with fail
             go_quiet (fail)
             rw [show s.extract 0 300 = tx from by rw [HTE.out, if_pos hm]]
             clear m1 m2)
          | (have m3 : decide ((300 : Int) < (s.size : Int)) = false := decide_eq_false (by omega)
             have m4 : (s.size : Int) ≤ 300 := by omega
             have m5 : (if (300 : Int) < (s.size : Int) then (300 : Int) else (s.size : Int)) = (s.size : Int) := if_neg (by omega)
             have m6 : (0 : Int) ≤ (s.size : Int) := by omega
             go_wp2_with fail
             go_quiet (fail)
             obtain rfl : tx = s := by rw [HTE.out, if_neg hm]
             clear m3 m4 m5 m6)
        clear cs HTE hm
        have hJ := HJ.out.more (below_drewN (Below.refl _ _) nq)
        generalize wr.drewN nq = W1 at hJ ⊢
        clear HJ
        obtain ⟨n, hn⟩ : ∃ n, n = Frame.need tx.size := ⟨_, rfl⟩
        have q1 : 1 ≤ n := by subst hn; unfold Frame.need; omega
        have q2 : n ≤ 6 := by subst hn; unfold Frame.need; split <;> omega
        have q3 : tx.size ≤ 53 * n := by subst hn; unfold Frame.need; split <;> omega
        have q4 : 53 * (n - 1) ≤ tx.size := by subst hn; unfold Frame.need; split <;> omega
        obtain ⟨A, hAe⟩ : ∃ A, A = Frame.pickOf (total l : Int) 50 := ⟨_, rfl⟩
        have hA50 : A < 50 := by rw [hAe]; exact Frame.pickOf_lt _ (by decide)
        have hpk := fun w => pick_any (total l : Int) 50 (by omega) (by decide) (by decide) w
        rw [← hAe] at hpk
        have hnd := fun w => need_any tx.size (by omega) w
        rw [← hn] at hnd
        have hcut := fun w => cut_good 3 A tx n hn (by decide) (by omega) w
        have HPK := Lib.hid hpk
        have HND := Lib.hid hnd
        have HCUT : Hid (∀ w, Calls Try.prog 19 #[.int .i64 3, .int .i64 (A : Int), .string tx] w fun x w' => ∃ v, x = .returned (.tuple #[v, .int .i64 0]) ∧ w'.ownsRow w.heap.size 23 4 v n (Frame.parts 3 A n tx n) ∧ Below w.heap.size w w') := Lib.hid hcut
        clear hpk hnd hcut hn hAe
        have HJ := Lib.hid hJ
        clear hJ
        go_wp2_with fail
        refine (HPK.out _).mono ?_
        rintro x w2 ⟨rfl, rfl⟩
        go_wp2_with fail
        refine (HCUT.out _).mono ?_
        rintro x w2 ⟨vc, rfl, hrc, hB2⟩
        obtain ⟨g, cap, rfl, _, _⟩ := hrc.form (by omega)
        have hJ2 := HJ.out.more hB2
        clear HJ hB2
        have HJ := Lib.hid hJ2
        clear hJ2
        have HRC := Lib.hid hrc
        clear hrc
        go_wp2_with fail
        refine (HND.out _).mono ?_
        rintro x w3 ⟨rfl, rfl⟩
        have hr8 := HJ.out.r8
        have hr9 := HJ.out.r9
        have hr10 := HJ.out.r10
        have hBw := HJ.out.below
        have hzw := hBw.size
        rw [← HK.out] at hr9 hr10
        have hgood := HJ.out.good
        have hlen6 := HJ.out.len
        have HG := Lib.hid hgood
        have HL6 := Lib.hid hlen6
        clear hgood hlen6 HJ HPK HND HCUT HA
        rcases Nat.eq_zero_or_pos n1 with hn1 | hn1
        · subst hn1
          go_wp2_with (first
            | (at_builtin; refine wpList_append_lies _ rfl _ _ _ rfl w.heap.size 23 i0 _ 4 40 Try.underlying35 hi hz0 hz1 hz2 rfl (by omega) _ (total l) _ rfl hr8 ⟨g, 0, none⟩ n cap (Frame.parts 3 A n tx n) rfl HRC.out.1 (fun j u hu => HRC.out.cells (g := g) rfl j u hu) (parts_one _ _ _ _ _) (by omega) (by simp [maxLen]; omega) (by omega) (by omega) w2.heap.size rfl ?_; intro g8 cap8 w4 hown8 hgrow8 _ _; have hB4 := hBw.grown hgrow8 hzw (fun q hq => (hr8.lt q hq).1); have hz4 := hB4.size; have hs9 := owned_apart (by decide) hr9 hr8 hgrow8; have hs10 := owned_apart (by decide) hr10 hr8 hgrow8; clear hr8 hr9 hr10 hgrow8 hBw)
            | (at_builtin; refine wpList_append_lies _ rfl _ _ _ rfl w.heap.size 9 is _ 1 16 Try.underlying38 his hs0 hs1 hs2 rfl (by omega) _ k _ rfl (hs9.alloc _) ⟨w4.heap.size, 0, none⟩ 1 1 [.string tx] rfl rfl (World.news_of_block (cs := #[.string tx]) (t := 9) (fr := (0, 0)) (World.alloc_heap_new w4 _)) (by simp [Value.oneCell']) (by omega) (by simp [maxLen]; omega) (by omega) (by simp; omega) (w4.heap.size + 1) (by simp) ?_; intro g9 cap9 w5 hown9 hgrow9 _ _; have hB5 := (hB4.alloc hz4 (.cells #[.string tx] 9)).grown hgrow9 (by simp; omega) (fun q hq => (hs9.lt q hq).1); have hz5 := hB5.size; have ht8 := owned_apart (by decide) (hown8.alloc _) (hs9.alloc _) hgrow9; have ht10 := owned_apart (by decide) (hs10.alloc _) (hs9.alloc _) hgrow9; clear hs9 hs10 hown8 hgrow9 hB4 hz4)
            | (at_builtin; refine wpList_append_lies _ rfl _ _ _ rfl w.heap.size 3 ii _ 1 8 Try.underlying49 hii hi0 hi1 hi2 rfl (by omega) _ k _ rfl (ht10.alloc _) ⟨w5.heap.size, 0, none⟩ 1 1 [.int .i64 ((total l : Int) + (n : Int))] rfl rfl (World.news_of_block (cs := #[.int .i64 ((total l : Int) + (n : Int))]) (t := 3) (fr := (0, 0)) (World.alloc_heap_new w5 _)) (by simp [Value.oneCell']) (by omega) (by simp [maxLen]; omega) (by omega) (by simp; omega) (w5.heap.size + 1) (by simp) ?_; intro g10 cap10 w6 hown10 hgrow10 _ _; have hB6 := (hB5.alloc hz5 (.cells #[.int .i64 ((total l : Int) + (n : Int))] 3)).grown hgrow10 (by simp; omega) (fun q hq => (ht10.lt q hq).1); have hz6 := hB6.size; have hv8 := owned_apart (by decide) (ht8.alloc _) (ht10.alloc _) hgrow10; have hv9 := owned_apart (by decide) (hown9.alloc _) (ht10.alloc _) hgrow10; clear ht8 ht10 hown9 hgrow10 hB5 hz5; try (have cx := (hB6.cell (p := ⟨bs, offs + q, none⟩) hbls).trans hxc))
            | (at_builtin; refine wpList_append_lies _ rfl _ _ _ rfl w.heap.size 23 i0 _ 4 40 Try.underlying35 hi hz0 hz1 hz2 rfl (by omega) _ (total l + n) _ rfl (hv8.alloc _) ⟨w6.heap.size, 0, none⟩ 1 1 [.int .i64 3, .int .i64 0, .int .i64 4, .string ⟨#[]⟩] rfl rfl (World.news_of_block (cs := #[.int .i64 3, .int .i64 0, .int .i64 4, .string ⟨#[]⟩]) (t := 23) (fr := (0, 0)) (World.alloc_heap_new w6 _)) (by simp [Value.oneCell']) (by omega) (by simp [maxLen]; omega) (by omega) (by simp; omega) (w6.heap.size + 1) (by simp) ?_; intro g11 cap11 w7 hown11 hgrow11 _ _; have hB7 := (hB6.alloc hz6 (.cells #[.int .i64 3, .int .i64 0, .int .i64 4, .string ⟨#[]⟩] 23)).grown hgrow11 (by simp; omega) (fun q hq => (hv8.lt q hq).1); have hu9 := owned_apart (by decide) (hv9.alloc _) (hv8.alloc _) hgrow11; have hu10 := owned_apart (by decide) (hown10.alloc _) (hv8.alloc _) hgrow11; clear hv8 hv9 hown10 hgrow11 hB6 hz6))
          exact ⟨⟨l ++ [⟨tx, false, A, n⟩], JI.snoc HG.out HL6.out ⟨q1, q4, q3, by show A + n ≤ 64; omega⟩ q2 (by simpa [Item.len, Item.frames, parts_frames ⟨tx, false, A, n⟩] using hv8) (by rw [← HK.out]; exact hv9) (by rw [← HK.out]; simpa using hown10) hB6, by rw [List.length_append, ← HK.out]; go_num, by rw [List.length_append, ← HK.out]; simp; omega, by rw [List.length_append, ← HK.out]; simp; omega⟩, by simp [intOf]; omega⟩
        · obtain ⟨bs, offs, x, hb1, hbls, hx, hxc⟩ := HS.out (k % n1) (Nat.mod_lt _ hn1)
          subst hb1
          obtain ⟨q, hq⟩ : ∃ q, q = k % n1 := ⟨_, rfl⟩
          rw [← hq] at hxc
          have hq1 : (k : Int) % (n1 : Int) = (q : Int) := by omega
          have hq2 : (q : Int) < (n1 : Int) := by have := Nat.mod_lt k hn1; omega
          have hq3 : (0 : Int) < (n1 : Int) := by omega
          have HQ := Lib.hid hq
          clear hq HS
          by_cases hx2 : x % 2 = 1
          · have hx3 : (x % 2 == 1) = true := by rw [hx2]; rfl
            clear hx2
            go_wp2_with (first
              | (at_builtin; refine wpList_append_lies _ rfl _ _ _ rfl w.heap.size 23 i0 _ 4 40 Try.underlying35 hi hz0 hz1 hz2 rfl (by omega) _ (total l) _ rfl hr8 ⟨g, 0, none⟩ n cap (Frame.parts 3 A n tx n) rfl HRC.out.1 (fun j u hu => HRC.out.cells (g := g) rfl j u hu) (parts_one _ _ _ _ _) (by omega) (by simp [maxLen]; omega) (by omega) (by omega) w2.heap.size rfl ?_; intro g8 cap8 w4 hown8 hgrow8 _ _; have hB4 := hBw.grown hgrow8 hzw (fun q hq => (hr8.lt q hq).1); have hz4 := hB4.size; have hs9 := owned_apart (by decide) hr9 hr8 hgrow8; have hs10 := owned_apart (by decide) hr10 hr8 hgrow8; clear hr8 hr9 hr10 hgrow8 hBw)
              | (at_builtin; refine wpList_append_lies _ rfl _ _ _ rfl w.heap.size 9 is _ 1 16 Try.underlying38 his hs0 hs1 hs2 rfl (by omega) _ k _ rfl (hs9.alloc _) ⟨w4.heap.size, 0, none⟩ 1 1 [.string tx] rfl rfl (World.news_of_block (cs := #[.string tx]) (t := 9) (fr := (0, 0)) (World.alloc_heap_new w4 _)) (by simp [Value.oneCell']) (by omega) (by simp [maxLen]; omega) (by omega) (by simp; omega) (w4.heap.size + 1) (by simp) ?_; intro g9 cap9 w5 hown9 hgrow9 _ _; have hB5 := (hB4.alloc hz4 (.cells #[.string tx] 9)).grown hgrow9 (by simp; omega) (fun q hq => (hs9.lt q hq).1); have hz5 := hB5.size; have ht8 := owned_apart (by decide) (hown8.alloc _) (hs9.alloc _) hgrow9; have ht10 := owned_apart (by decide) (hs10.alloc _) (hs9.alloc _) hgrow9; clear hs9 hs10 hown8 hgrow9 hB4 hz4)
              | (at_builtin; refine wpList_append_lies _ rfl _ _ _ rfl w.heap.size 3 ii _ 1 8 Try.underlying49 hii hi0 hi1 hi2 rfl (by omega) _ k _ rfl (ht10.alloc _) ⟨w5.heap.size, 0, none⟩ 1 1 [.int .i64 ((total l : Int) + (n : Int))] rfl rfl (World.news_of_block (cs := #[.int .i64 ((total l : Int) + (n : Int))]) (t := 3) (fr := (0, 0)) (World.alloc_heap_new w5 _)) (by simp [Value.oneCell']) (by omega) (by simp [maxLen]; omega) (by omega) (by simp; omega) (w5.heap.size + 1) (by simp) ?_; intro g10 cap10 w6 hown10 hgrow10 _ _; have hB6 := (hB5.alloc hz5 (.cells #[.int .i64 ((total l : Int) + (n : Int))] 3)).grown hgrow10 (by simp; omega) (fun q hq => (ht10.lt q hq).1); have hz6 := hB6.size; have hv8 := owned_apart (by decide) (ht8.alloc _) (ht10.alloc _) hgrow10; have hv9 := owned_apart (by decide) (hown9.alloc _) (ht10.alloc _) hgrow10; clear ht8 ht10 hown9 hgrow10 hB5 hz5; try (have cx := (hB6.cell (p := ⟨bs, offs + q, none⟩) hbls).trans hxc))
              | (at_builtin; refine wpList_append_lies _ rfl _ _ _ rfl w.heap.size 23 i0 _ 4 40 Try.underlying35 hi hz0 hz1 hz2 rfl (by omega) _ (total l + n) _ rfl (hv8.alloc _) ⟨w6.heap.size, 0, none⟩ 1 1 [.int .i64 3, .int .i64 0, .int .i64 4, .string ⟨#[]⟩] rfl rfl (World.news_of_block (cs := #[.int .i64 3, .int .i64 0, .int .i64 4, .string ⟨#[]⟩]) (t := 23) (fr := (0, 0)) (World.alloc_heap_new w6 _)) (by simp [Value.oneCell']) (by omega) (by simp [maxLen]; omega) (by omega) (by simp; omega) (w6.heap.size + 1) (by simp) ?_; intro g11 cap11 w7 hown11 hgrow11 _ _; have hB7 := (hB6.alloc hz6 (.cells #[.int .i64 3, .int .i64 0, .int .i64 4, .string ⟨#[]⟩] 23)).grown hgrow11 (by simp; omega) (fun q hq => (hv8.lt q hq).1); have hu9 := owned_apart (by decide) (hv9.alloc _) (hv8.alloc _) hgrow11; have hu10 := owned_apart (by decide) (hown10.alloc _) (hv8.alloc _) hgrow11; clear hv8 hv9 hown10 hgrow11 hB6 hz6))
            exact ⟨⟨l ++ [⟨tx, true, A, n⟩], JI.snoc HG.out HL6.out ⟨q1, q4, q3, by show A + n ≤ 64; omega⟩ q2 (by simpa [Item.len, Item.frames, parts_frames ⟨tx, true, A, n⟩, show sealFr.cells = [.int .i64 3, .int .i64 0, .int .i64 4, .string ⟨#[]⟩] from rfl, Nat.add_assoc] using hown11) (by rw [← HK.out]; exact hu9) (by rw [← HK.out]; simpa using hu10) hB7, by rw [List.length_append, ← HK.out]; go_num, by rw [List.length_append, ← HK.out]; simp; omega, by rw [List.length_append, ← HK.out]; simp; omega⟩, by simp [intOf]; omega⟩
          · have hx3 : (x % 2 == 1) = false := by rw [beq_eq_false_iff_ne]; exact hx2
            clear hx2
            go_wp2_with (first
              | (at_builtin; refine wpList_append_lies _ rfl _ _ _ rfl w.heap.size 23 i0 _ 4 40 Try.underlying35 hi hz0 hz1 hz2 rfl (by omega) _ (total l) _ rfl hr8 ⟨g, 0, none⟩ n cap (Frame.parts 3 A n tx n) rfl HRC.out.1 (fun j u hu => HRC.out.cells (g := g) rfl j u hu) (parts_one _ _ _ _ _) (by omega) (by simp [maxLen]; omega) (by omega) (by omega) w2.heap.size rfl ?_; intro g8 cap8 w4 hown8 hgrow8 _ _; have hB4 := hBw.grown hgrow8 hzw (fun q hq => (hr8.lt q hq).1); have hz4 := hB4.size; have hs9 := owned_apart (by decide) hr9 hr8 hgrow8; have hs10 := owned_apart (by decide) hr10 hr8 hgrow8; clear hr8 hr9 hr10 hgrow8 hBw)
              | (at_builtin; refine wpList_append_lies _ rfl _ _ _ rfl w.heap.size 9 is _ 1 16 Try.underlying38 his hs0 hs1 hs2 rfl (by omega) _ k _ rfl (hs9.alloc _) ⟨w4.heap.size, 0, none⟩ 1 1 [.string tx] rfl rfl (World.news_of_block (cs := #[.string tx]) (t := 9) (fr := (0, 0)) (World.alloc_heap_new w4 _)) (by simp [Value.oneCell']) (by omega) (by simp [maxLen]; omega) (by omega) (by simp; omega) (w4.heap.size + 1) (by simp) ?_; intro g9 cap9 w5 hown9 hgrow9 _ _; have hB5 := (hB4.alloc hz4 (.cells #[.string tx] 9)).grown hgrow9 (by simp; omega) (fun q hq => (hs9.lt q hq).1); have hz5 := hB5.size; have ht8 := owned_apart (by decide) (hown8.alloc _) (hs9.alloc _) hgrow9; have ht10 := owned_apart (by decide) (hs10.alloc _) (hs9.alloc _) hgrow9; clear hs9 hs10 hown8 hgrow9 hB4 hz4)
              | (at_builtin; refine wpList_append_lies _ rfl _ _ _ rfl w.heap.size 3 ii _ 1 8 Try.underlying49 hii hi0 hi1 hi2 rfl (by omega) _ k _ rfl (ht10.alloc _) ⟨w5.heap.size, 0, none⟩ 1 1 [.int .i64 ((total l : Int) + (n : Int))] rfl rfl (World.news_of_block (cs := #[.int .i64 ((total l : Int) + (n : Int))]) (t := 3) (fr := (0, 0)) (World.alloc_heap_new w5 _)) (by simp [Value.oneCell']) (by omega) (by simp [maxLen]; omega) (by omega) (by simp; omega) (w5.heap.size + 1) (by simp) ?_; intro g10 cap10 w6 hown10 hgrow10 _ _; have hB6 := (hB5.alloc hz5 (.cells #[.int .i64 ((total l : Int) + (n : Int))] 3)).grown hgrow10 (by simp; omega) (fun q hq => (ht10.lt q hq).1); have hz6 := hB6.size; have hv8 := owned_apart (by decide) (ht8.alloc _) (ht10.alloc _) hgrow10; have hv9 := owned_apart (by decide) (hown9.alloc _) (ht10.alloc _) hgrow10; clear ht8 ht10 hown9 hgrow10 hB5 hz5; try (have cx := (hB6.cell (p := ⟨bs, offs + q, none⟩) hbls).trans hxc))
              | (at_builtin; refine wpList_append_lies _ rfl _ _ _ rfl w.heap.size 23 i0 _ 4 40 Try.underlying35 hi hz0 hz1 hz2 rfl (by omega) _ (total l + n) _ rfl (hv8.alloc _) ⟨w6.heap.size, 0, none⟩ 1 1 [.int .i64 3, .int .i64 0, .int .i64 4, .string ⟨#[]⟩] rfl rfl (World.news_of_block (cs := #[.int .i64 3, .int .i64 0, .int .i64 4, .string ⟨#[]⟩]) (t := 23) (fr := (0, 0)) (World.alloc_heap_new w6 _)) (by simp [Value.oneCell']) (by omega) (by simp [maxLen]; omega) (by omega) (by simp; omega) (w6.heap.size + 1) (by simp) ?_; intro g11 cap11 w7 hown11 hgrow11 _ _; have hB7 := (hB6.alloc hz6 (.cells #[.int .i64 3, .int .i64 0, .int .i64 4, .string ⟨#[]⟩] 23)).grown hgrow11 (by simp; omega) (fun q hq => (hv8.lt q hq).1); have hu9 := owned_apart (by decide) (hv9.alloc _) (hv8.alloc _) hgrow11; have hu10 := owned_apart (by decide) (hown10.alloc _) (hv8.alloc _) hgrow11; clear hv8 hv9 hown10 hgrow11 hB6 hz6))
            exact ⟨⟨l ++ [⟨tx, false, A, n⟩], JI.snoc HG.out HL6.out ⟨q1, q4, q3, by show A + n ≤ 64; omega⟩ q2 (by simpa [Item.len, Item.frames, parts_frames ⟨tx, false, A, n⟩] using hv8) (by rw [← HK.out]; exact hv9) (by rw [← HK.out]; simpa using hown10) hB6, by rw [List.length_append, ← HK.out]; go_num, by rw [List.length_append, ← HK.out]; simp; omega, by rw [List.length_append, ← HK.out]; simp; omega⟩, by simp [intOf]; omega⟩
    · have hT := total_le hJ.len
      have hd : decide (l.length < n0) = false ∨ (decide (l.length < n0) = true ∧ decide ((l.length : Int) < 8) = false) := by
        by_cases h : l.length < n0
        · exact .inr ⟨decide_eq_true h, decide_eq_false (by omega)⟩
        · exact .inl (decide_eq_false h)
      have hB := hJ.below
      have hr8 := hJ.r8
      have hr9 := hJ.r9
      have hr10 := hJ.r10
      have hja := join_all l hJ.good 0 [] 0
      have hk2 : K % (total l + 1) ≤ total l := by have := Nat.mod_lt K (show 0 < total l + 1 by omega); omega
      obtain ⟨k2, hk2e⟩ : ∃ k2, k2 = K % (total l + 1) := ⟨_, rfl⟩
      have hjc := join_cut l hJ.good k2 0 [] 0 (Nat.le_refl _)
      rw [← hk2e] at hk2
      have hk2i : (K : Int) % ((total l : Int) + 1) = (k2 : Int) := by rw [hk2e]; simp
      obtain ⟨m, hjm, _, hmk, hme⟩ := hjc
      rw [Nat.zero_add] at hjm hmk hme
      have hM := many_le l 0 k2
      have hMe : many l 0 k2 = ((ends l 0).filter (fun e => decide (e ≤ k2))).length := rfl
      generalize many l 0 k2 = M at hjm hme hM hMe
      have hel := ends_length l 0
      have hee := ends_le l 0
      generalize ends l 0 = es at hr10 hme hMe hel hee
      have L8 : Lies wr u8 (total l) 4 ((l.flatMap Item.frames).flatMap Fr.cells) := Lies.own hr8
      have L9 : Lies wr u9 l.length 1 ((l.map Item.s).map .string) := Lies.own hr9
      have f8 := row_slice' hr8
      have f9 := row_slice' hr9
      have f10 := row_slice' hr10
      have hlen8 : (l.flatMap Item.frames).length = total l := total_frames l
      have hsl : (l.map Item.s).length = l.length := by simp
      have hcnt : (if l = [] then 0 else 0 + total l) = total l := by split <;> simp_all [total]
      rw [hcnt, List.nil_append] at hja
      rw [List.nil_append] at hjm
      have HJA := Lib.hid hja
      have HJM := Lib.hid hjm
      have HME := Lib.hid hme
      have HMC := Lib.hid hMe
      have HEL := Lib.hid hel
      have HEE := Lib.hid hee
      have HL8 := Lib.hid hlen8
      have HSL := Lib.hid hsl
      have HK2 := Lib.hid hk2e
      have R10 := Lib.hid hr10
      clear hja hjm hme hMe hel hee hlen8 hsl hcnt hk2e hr8 hr9 hr10 HA HS hJ
      obtain ⟨N, hN⟩ : ∃ N, N = total l := ⟨_, rfl⟩
      obtain ⟨L, hL⟩ : ∃ L, L = l.length := ⟨_, rfl⟩
      rw [← hN] at hT hk2 hk2i f8 L8 HL8 HJA
      rw [← hL] at hT hd L9 f9 f10 HSL HEL hM hl0 hl8 ⊢
      have HN := Lib.hid hN
      have HLL := Lib.hid hL
      clear hN hL hlt
      have hN56 : N ≤ 56 := by omega
      obtain ⟨p8, c8, rfl, hc8, hc8'⟩ := f8
      obtain ⟨p9, c9, rfl, hc9, hc9'⟩ := f9
      obtain ⟨p10, c10, rfl, hc10, hc10'⟩ := f10
      unfold maxLen at hc8' hc9' hc10'
      rcases hd with hd | ⟨hd', hd⟩
      all_goals
        go_wp2_with fail
        refine (join_lies _ (by rw [HL8.out]; omega) _ L8).mono ?_
        rintro x w2 ⟨va, rfl, hra, hB2⟩
        rw [HJA.out] at hra ⊢
        replace L8 := L8.below hB2
        replace L9 := L9.below hB2
        have hs10 := owned_below R10.out hB2
        replace hB := hB.trans (hB2.mono hB.size)
        have LA : Lies w2 va (l.map Item.s).length 1 ((l.map Item.s).map .string) := Lies.own hra
        clear R10 hB2 hra
        go_wp2_with fail
        refine (sameTexts_any (l.map Item.s) (l.map Item.s) _ (by rw [HSL.out]; omega) LA L9).mono ?_
        rintro x w3 ⟨rfl, hB3⟩
        rw [show decide (l.map Item.s = l.map Item.s) = true from decide_eq_true rfl]
        replace L8 := L8.below hB3
        replace L9 := L9.below hB3
        have ht10 := owned_below hs10 hB3
        replace hB := hB.trans (hB3.mono hB.size)
        clear hs10 hB3 LA
        go_wp2_with fail
        have L8c := L8.cut hk2
        rw [cells_take] at L8c
        refine (join_lies _ (by rw [List.length_take]; omega) _ L8c).mono ?_
        rintro x w4 ⟨vb, rfl, hrb, hB4⟩
        rw [HJM.out] at hrb ⊢
        replace L9 := L9.below hB4
        have hu10 := owned_below ht10 hB4
        replace hB := hB.trans (hB4.mono hB.size)
        have hlb : ((l.map Item.s).take M).length = M := by rw [List.length_take, HSL.out]; omega
        obtain ⟨pb, cb, rfl, _, _⟩ := row_slice' hrb
        have LB : Lies w4 (.slice pb ((l.map Item.s).take M).length cb) M 1 (((l.map Item.s).take M).map .string) := by have := Lies.own hrb; rwa [hlb] at this ⊢
        rw [hlb] at LB ⊢
        clear ht10 hB4 hrb L8 L8c hlb
        have hc10i : ∀ i (h : i < L), ∃ g, p10 = some ⟨g, 0, none⟩ ∧ w4.cell? ⟨g, i, none⟩ = some (.int .i64 ((es[i]'(by rw [HEL.out]; exact h) : Nat) : Int)) := fun i h => by
          rcases row_form hu10 with ⟨_, h0⟩ | ⟨g, c, hv, _, _⟩
          · have := HLL.out; omega
          · simp at hv
            obtain ⟨rfl, _, _⟩ := hv
            refine ⟨g, rfl, ?_⟩
            have hu := hu10
            rw [← HLL.out] at hu
            refine owned_cell hu i _ ?_
            rw [List.getElem?_map, List.getElem?_eq_getElem (by rw [HEL.out]; exact h)]; rfl
        have HC10 := Lib.hid hc10i
        clear hc10i hu10
        go_wp2_with fail
        go_loop [20, 21] (fun v20 v21 => ∃ i : Nat, i ≤ L ∧ v21 = .int .i64 (i : Int) ∧ v20 = .int .i64 ((((es.take i).filter (fun e => decide (e ≤ k2))).length : Nat) : Int)) (fun _ v => L - (intOf v).toNat)
        case atStart => exact ⟨0, Nat.zero_le _, rfl, rfl⟩
        case round =>
          obtain ⟨i, hiL, rfl, rfl⟩ := hrel
          by_cases hlt : i < L
          · obtain ⟨g, hpg, hcg⟩ := HC10.out i hlt
            subst hpg
            have hie : i < es.length := by rw [HEL.out]; exact hlt
            have hts : es.take (i + 1) = es.take i ++ [es[i]] := by rw [List.take_succ_eq_append_getElem hie]
            have hfl := List.length_filter_le (fun e => decide (e ≤ k2)) (es.take i)
            have hfl2 : (es.take i).length ≤ i := List.length_take_le _ _
            by_cases hle : es[i] ≤ k2
            · have hf : ((es.take (i + 1)).filter (fun e => decide (e ≤ k2))).length = ((es.take i).filter (fun e => decide (e ≤ k2))).length + 1 := by
                rw [hts, List.filter_append, List.length_append]; simp [hle]
              have HF := Lib.hid hf
              have d1 : decide (es[i] ≤ k2) = true := decide_eq_true hle
              generalize ((es.take i).filter (fun e => decide (e ≤ k2))).length = fi at HF hfl ⊢
              clear hts hf hle
              generalize es[i] = ei at hcg d1
              go_wp2_with fail
              go_round
              case rel => exact ⟨i + 1, by omega, by go_num, by rw [HF.out]; go_num⟩
              case measure => simp [intOf]; omega
            · have hf : ((es.take (i + 1)).filter (fun e => decide (e ≤ k2))).length = ((es.take i).filter (fun e => decide (e ≤ k2))).length := by
                rw [hts, List.filter_append, List.length_append]; simp [hle]
              have HF := Lib.hid hf
              have d1 : decide (es[i] ≤ k2) = false := decide_eq_false hle
              generalize ((es.take i).filter (fun e => decide (e ≤ k2))).length = fi at HF hfl ⊢
              clear hts hf hle
              generalize es[i] = ei at hcg d1
              go_wp2_with fail
              go_round
              case rel => exact ⟨i + 1, by omega, by go_num, by rw [HF.out]⟩
              case measure => simp [intOf]; omega
          · obtain rfl : i = L := by omega
            rw [List.take_of_length_le (Nat.le_of_eq HEL.out), ← HMC.out]
            have L9c := L9.cut hM
            rw [Nat.mul_one, ← List.map_take] at L9c
            have hmk' : decide (m ≤ k2) = true := decide_eq_true hmk
            by_cases hM0 : M = 0
            · subst hM0
              go_wp2_with fail
              ((with_reducible refine (sameTexts_any ((l.map Item.s).take 0) ((l.map Item.s).take 0) _ (by rw [List.length_take]; omega) LB L9c).mono ?_); rintro x w5 ⟨rfl, hB5⟩)
              rw [show decide ((l.map Item.s).take 0 = (l.map Item.s).take 0) = true from decide_eq_true rfl]
              replace hB := hB.trans (hB5.mono hB.size)
              clear hB5 LB L9c L9
              go_wp2_with fail
              go_ret
              exact ⟨by simp, hB⟩
            · obtain ⟨mm, rfl⟩ : ∃ mm, M = mm + 1 := ⟨M - 1, by omega⟩
              have hM1 : (((mm + 1 : Nat) : Int) == 0) = false := by rw [beq_eq_false_iff_ne]; omega
              obtain ⟨g, hpg, hcg⟩ := HC10.out mm (by omega)
              subst hpg
              have hie : mm < es.length := by rw [HEL.out]; omega
              have hem : es[mm] ≤ m := HME.out (by omega) _ (by rw [Nat.add_sub_cancel, List.getElem?_eq_getElem hie])
              have hem' : decide (es[mm] ≤ m) = true := decide_eq_true hem
              generalize es[mm] = ei at hcg hem'
              clear hem
              have hgl : g < w4.heap.size := by
                have := cell_lt hcg
                exact this
              have hi1 : (mm : Int) < (i : Int) := by omega
              go_wp2_with fail
              ((with_reducible refine (sameTexts_any ((l.map Item.s).take (mm + 1)) ((l.map Item.s).take (mm + 1)) _ (by rw [List.length_take]; omega) LB L9c).mono ?_); rintro x w5 ⟨rfl, hB5⟩)
              rw [show decide ((l.map Item.s).take (mm + 1) = (l.map Item.s).take (mm + 1)) = true from decide_eq_true rfl]
              have hcg5 : w5.cell? ⟨g, mm, none⟩ = some (.int .i64 (ei : Int)) := (hB5.cell (p := ⟨g, mm, none⟩) hgl).trans hcg
              replace hB := hB.trans (hB5.mono hB.size)
              clear hB5 LB L9c L9 hcg
              go_wp2_with fail
              go_ret
              exact ⟨by simp, hB⟩
end Go.Proofs.Ytlnfjddacafpgaa

/- The walk of FrameCuts. -/
import Derived.Test.YtlnfjddacafpgaaRefJoin
import Derived.Test.YtlnfjddacafpgaaRefCut
import Derived.Test.YtlnfjddacafpgaaRowBase
import Derived.Test.YtlnfjddacafpgaaFrameToldLaw
namespace Go.Proofs.Ytlnfjddacafpgaa
open Go Go.RowKit

theorem same_zero (p q : Option Addr) (c d : Nat) (w : World) :
    Calls Try.prog 23 #[.slice p 0 c, .slice q 0 d] w fun x w' => x = .returned (.bool true) ∧ w = w' := by
  go_enter Try.func23, Try.ntmps23
  go_wp2
  go_loopw [5] (fun i wr => i = .int .i64 0 ∧ w = wr) (fun _ _ => 0)
  case atStart => exact ⟨rfl, rfl⟩
  case round =>
    obtain ⟨rfl, rfl⟩ := hrel
    go_wp2
    go_ret
    exact ⟨rfl, rfl⟩
theorem same_lies {v v' : Value} {n : Nat} (fs : List Fr) (hm : fs.length ≤ 1000000) (w : World) (h : Lies w v n 4 (fs.flatMap Fr.cells)) (h' : Lies w v' n 4 (fs.flatMap Fr.cells)) :
    Calls Try.prog 23 #[v, v'] w fun x w' => x = .returned (.bool true) ∧ Below w.heap.size w w' := by
  have hl := h.1
  rw [cells_len] at hl
  rcases Nat.eq_zero_or_pos n with rfl | hn
  · rcases h.2 with ⟨_, p, c, rfl⟩ | ⟨b, off, c, rfl, _⟩
    all_goals
      rcases h'.2 with ⟨_, p', c', rfl⟩ | ⟨b', off', c', rfl, _⟩
      all_goals exact (same_zero _ _ _ _ w).mono fun x w' ⟨h1, h2⟩ => ⟨h1, h2 ▸ Below.refl _ _⟩
  · exact same_any fs hm hn (by omega) w h h'

theorem parts_as (e a n : Nat) (s : ByteArray) : ∃ fs : List Fr, fs.length = n ∧ fs.flatMap Fr.cells = Frame.parts e a n s n := by
  refine ⟨(List.range n).map fun i : Nat => (⟨e, (a : Int) + (i : Int), if i + 1 = n then 3 else 2, if i + 1 = n then s.extract (i * 53) s.size else (s.extract (i * 53) s.size).extract 0 53⟩ : Fr), by simp, ?_⟩
  unfold Frame.parts
  rw [List.flatMap_map]
  rfl
/-- both cuts tell the same -/
theorem cut_both (e a : Int) (ha : -9223372036854775808 ≤ a ∧ a ≤ 9223372036854775807) (s : ByteArray) (hs : s.size ≤ 4000) : ∃ (n : Nat) (c : Int) (fs : List Fr), fs.length ≤ 1000000 ∧
    (∀ w, Calls Try.prog 19 #[.int .i64 e, .int .i64 a, .string s] w fun x w' => ∃ v, x = .returned (.tuple #[v, .int .i64 c]) ∧ Lies w' v n 4 (fs.flatMap Fr.cells) ∧ Below w.heap.size w w') ∧
    (∀ w, Calls Try.prog 20 #[.int .i64 e, .int .i64 a, .string s] w fun x w' => ∃ v, x = .returned (.tuple #[v, .int .i64 c]) ∧ Lies w' v n 4 (fs.flatMap Fr.cells) ∧ Below w.heap.size w w') := by
  by_cases h : e < 1 ∨ 16777215 < e ∨ a < 0 ∨ (64 : Int) - (Frame.need s.size : Int) < a
  · refine ⟨0, 2, [], by simp, fun w => (cut_bad e a s (by omega) h w).mono ?_, fun w => (refCut_bad e a s (by omega) ha h w).mono ?_⟩
    all_goals
      rintro x w' ⟨rfl, rfl⟩
      exact ⟨_, rfl, ⟨rfl, .inl ⟨rfl, _, _, rfl⟩⟩, Below.refl _ _⟩
  · obtain ⟨e, rfl⟩ : ∃ k : Nat, e = (k : Int) := ⟨e.toNat, by omega⟩
    obtain ⟨a, rfl⟩ : ∃ k : Nat, a = (k : Int) := ⟨a.toNat, by omega⟩
    obtain ⟨n, hn⟩ : ∃ n, n = Frame.need s.size := ⟨_, rfl⟩
    rw [← hn] at h
    obtain ⟨fs, hl, hf⟩ := parts_as e a n s
    refine ⟨n, 0, fs, by omega, fun w => (cut_good e a s n hn (by omega) (by omega) w).mono ?_, fun w => (refCut_good e a s n hn (by omega) (by omega) w).mono ?_⟩
    all_goals
      rintro x w' ⟨v, rfl, hr, hb⟩
      exact ⟨v, rfl, by rw [hf]; exact Lies.own hr, hb⟩

/-- a frame whose text is cut, and the right one of it -/
def cutS (s : ByteArray) : ByteArray := s.extract 0 (min s.size 70)
def cutF (f : Fr) : Fr := ⟨f.e, f.a, f.k, cutS f.s⟩
def ofF (f : Fr) : Fr := ⟨(1 + Frame.pickOf f.e 16777215 : Nat), (Frame.pickOf f.a 64 : Nat), (1 + Frame.pickOf f.k 4 : Nat), if 53 < f.s.size then f.s.extract 0 53 else f.s⟩
structure FrGood (f : Fr) : Prop where
  e : -9223372036854775808 ≤ f.e ∧ f.e ≤ 9223372036854775807
  a : -9223372036854775808 ≤ f.a ∧ f.a ≤ 9223372036854775807
  k : -9223372036854775808 ≤ f.k ∧ f.k ≤ 9223372036854775807
  s : f.s.size ≤ maxLen
theorem cutS_le (s : ByteArray) : (cutS s).size ≤ 70 := by
  unfold cutS
  rw [ByteArray.size_extract]; omega

/-- a cell of a row that is owned, set -/
theorem owned_set {W : World} {base g n cap size j : Nat} {e : TypeId} {xs : List Value} (h : W.ownsRow base e size (.slice (some ⟨g, 0, none⟩) n cap) n xs) (hj : j < n * size) (v : Value) :
    (W.setCell ⟨g, j, none⟩ v).ownsRow base e size (.slice (some ⟨g, 0, none⟩) n cap) n (xs.set j v) := by
  obtain ⟨h1, h2⟩ := h
  refine ⟨by rw [List.length_set]; exact h1, .inr ?_⟩
  rcases h2 with ⟨hv, _⟩ | ⟨g', cap', cur, hv, hb, hg, hc1, hc2, hc3, hc4⟩
  · simp at hv
  · simp at hv
    obtain ⟨rfl, rfl⟩ := hv
    refine ⟨g, cap, cur.setIfInBounds j v, rfl, hb, heap_setCell_same W g j cur e v hg, hc1, hc2, by simp [hc3], ?_⟩
    rw [Array.toList_setIfInBounds, ← hc4, List.take_set]
theorem set_cells : ∀ (fs : List Fr) (i : Nat) (h : i < fs.length) (s : ByteArray), (fs.flatMap Fr.cells).set (i * 4 + 3) (.string s) = (fs.set i ⟨fs[i].e, fs[i].a, fs[i].k, s⟩).flatMap Fr.cells
  | f :: r, 0, _, s => rfl
  | f :: r, i + 1, h, s => by
    have hl : f.cells.length = 4 := rfl
    have := set_cells r i (by simpa using h) s
    rw [List.set_cons_succ, List.flatMap_cons, List.flatMap_cons, List.set_append, if_neg (by omega), hl, show (i + 1) * 4 + 3 - 4 = i * 4 + 3 from by omega, this]
    rfl

/-- what the loop keeps -/
structure CI (w W : World) (ys : List Fr) (i : Nat) (p : Option Addr) (cap : Nat) (v12 : Value) : Prop where
  few : W.ownsRow w.heap.size 23 4 (.slice p ys.length cap) ys.length (((ys.take i).map cutF ++ ys.drop i).flatMap Fr.cells)
  right : W.ownsRow w.heap.size 23 4 v12 i (((ys.take i).map fun f => ofF (cutF f)).flatMap Fr.cells)
  apart : ∀ a, p = some a → v12.ownBlock ≠ some a.block
  form : 0 < ys.length → ∃ g, p = some ⟨g, 0, none⟩
  below : Below w.heap.size w W
theorem CI.more {w W W' : World} {ys : List Fr} {i : Nat} {p : Option Addr} {cap : Nat} {v12 : Value} (h : CI w W ys i p cap v12) (hb : Below W.heap.size W W') : CI w W' ys i p cap v12 :=
  ⟨owned_below h.few hb, owned_below h.right hb, h.apart, h.form, h.below.trans (hb.mono h.below.size)⟩

theorem owned_free {W : World} {base g n cap size : Nat} {e : TypeId} {xs : List Value} (h : W.ownsRow base e size (.slice (some ⟨g, 0, none⟩) n cap) n xs) (j : Nat) : W.frozen? ⟨g, j, none⟩ = false := by
  rcases h.2 with ⟨hv, _⟩ | ⟨g', cap', cur, hv, _, hg, _⟩
  · simp at hv
  · simp at hv
    obtain ⟨rfl, rfl⟩ := hv
    exact frozen_of_row _ _ j _ _ hg
theorem cur_at (ys : List Fr) (i : Nat) (h : i < ys.length) : ((ys.take i).map cutF ++ ys.drop i)[i]'(by simp; omega) = ys[i] := by
  rw [List.getElem_append_right (by simp; omega)]
  simp [List.length_take, Nat.min_eq_left (Nat.le_of_lt h)]
theorem cur_at2 (ys : List Fr) (i : Nat) (h : i < ys.length) : ((ys.take (i + 1)).map cutF ++ ys.drop (i + 1))[i]'(by simp; omega) = cutF ys[i] := by
  rw [List.getElem_append_left (by simp; omega)]
  simp
theorem cur_set (ys : List Fr) (i : Nat) (h : i < ys.length) : ((ys.take i).map cutF ++ ys.drop i).set i (cutF ys[i]) = (ys.take (i + 1)).map cutF ++ ys.drop (i + 1) := by
  have hl : ((ys.take i).map cutF).length = i := by simp; omega
  rw [List.set_append, if_neg (by omega), hl, Nat.sub_self, List.drop_eq_getElem_cons h, List.set_cons_zero, List.take_succ_eq_append_getElem h, List.map_append, List.append_assoc]
  rfl
theorem right_snoc (ys : List Fr) (i : Nat) (h : i < ys.length) : ((ys.take (i + 1)).map fun f => ofF (cutF f)).flatMap Fr.cells = ((ys.take i).map fun f => ofF (cutF f)).flatMap Fr.cells ++ (ofF (cutF ys[i])).cells := by
  rw [List.take_succ_eq_append_getElem h, List.map_append, List.flatMap_append]
  simp

theorem joinGo_lens : ∀ (fs : List Fr) (i : Nat) (bs : List ByteArray) (b : List UInt8) (g : Bool) (c : Nat), (joinGo fs i bs b g c).1.length ≤ bs.length + fs.length
  | [], i, bs, b, g, c => by simp [joinGo]
  | f :: r, i, bs, b, g, c => by
    rw [joinGo]
    split
    · simp
    · split
      · have := joinGo_lens r (i + 1) bs b g (i + 1)
        simp at this ⊢; omega
      · split
        · have := joinGo_lens r (i + 1) bs (b ++ f.s.data.toList) true c
          simp at this ⊢; omega
        · have := joinGo_lens r (i + 1) (bs ++ [⟨(b ++ f.s.data.toList).toArray⟩]) [] false (i + 1)
          simp at this ⊢; omega
theorem joinGo_le (fs : List Fr) : (joinGo fs 0 [] [] false 0).1.length ≤ fs.length := by
  have := joinGo_lens fs 0 [] [] false 0
  simpa using this
theorem min_eq (n k : Nat) : (if (k : Int) < (n : Int) then (k : Int) else (n : Int)) = ((min n k : Nat) : Int) := by
  split <;> omega

set_option maxRecDepth 100000 in
set_option maxHeartbeats 8000000 in
theorem frameCuts_walk (e a : Int) (s : ByteArray) (b0 : Option Addr) (n0 c0 : Nat) (xs : List Fr) (w : World) (he : -9223372036854775808 ≤ e ∧ e ≤ 9223372036854775807) (ha : -9223372036854775808 ≤ a ∧ a ≤ 9223372036854775807) (hs : s.size ≤ maxLen)
    (hn0 : xs.length = n0) (hc0 : n0 ≤ c0) (hm0 : c0 ≤ maxLen) (hL : Lies w (.slice b0 n0 c0) n0 4 (xs.flatMap Fr.cells)) (hg : ∀ f ∈ xs, FrGood f) :
    Calls Try.prog 4 #[.int .i64 e, .int .i64 a, .string s, .slice b0 n0 c0] w fun x w' => x = .returned (.bool true) ∧ Below w.heap.size w w' := by
  unfold maxLen at hs hm0
  obtain ⟨i0, hi, hz0, hz1, hz2⟩ := info_parts infoFrame
  -- the text
  obtain ⟨tx, htx⟩ : ∃ tx, tx = s.extract 0 (min s.size 4000) := ⟨_, rfl⟩
  have htz : tx.size ≤ 4000 := by rw [htx, ByteArray.size_extract]; omega
  have hk1 := min_eq s.size 4000
  have hk2 : min s.size 4000 ≤ s.size := by omega
  generalize min s.size 4000 = K at htx hk1 hk2
  have hk3 : (K : Int) ≤ (s.size : Int) := by omega
  have hk4 : (0 : Int) ≤ (K : Int) := by omega
  have HTX := Lib.hid htx
  have hk1' : (if (4000 : Int) < (s.size : Int) then (4000 : Int) else (s.size : Int)) = (K : Int) := hk1
  have HK1 := Lib.hid hk1'
  -- the frames
  obtain ⟨ys, hys⟩ : ∃ ys, ys = xs.take (min n0 80) := ⟨_, rfl⟩
  have hyl : ys.length = min n0 80 := by rw [hys, List.length_take]; omega
  have hyg : ∀ f ∈ ys, FrGood f := fun f hf => hg f (by rw [hys] at hf; exact List.mem_of_mem_take hf)
  have hLy := hL.cut (k := min n0 80) (by omega)
  rw [cells_take, ← hys] at hLy
  have hj1 := min_eq n0 80
  have hj2 : min n0 80 ≤ n0 := by omega
  have hj80 : min n0 80 ≤ 80 := by omega
  rw [← hyl] at hLy hj1 hj2 hj80
  have hj1' : (if (80 : Int) < (n0 : Int) then (80 : Int) else (n0 : Int)) = (ys.length : Int) := hj1
  have HJ1 := Lib.hid hj1'
  have hj3 : (ys.length : Int) ≤ (c0 : Int) := by omega
  have hj4 : (0 : Int) ≤ (ys.length : Int) := by omega
  have HYL := Lib.hid hyl
  have HLY := Lib.hid hLy
  clear htx hk1 hk1' hys hyl hL hg hj1 hj1' hLy xs hn0
  -- what both tell
  obtain ⟨na, ca, fa, hfa, hcut1, hcut2⟩ := cut_both e a ha tx htz
  have hpe := Frame.pickOf_lt e (n := 16777215) (by decide)
  have hpa := Frame.pickOf_lt a (n := 64) (by decide)
  have hpk1 := fun w => pick_any e 16777215 he (by decide) (by decide) w
  have hpk2 := fun w => pick_any a 64 ha (by decide) (by decide) w
  obtain ⟨nb, cb, fb, hfb, hcut3, hcut4⟩ := cut_both (1 + (Frame.pickOf e 16777215 : Int)) (Frame.pickOf a 64 : Int) (by omega) tx htz
  generalize Frame.pickOf e 16777215 = pe at hpe hpk1 hcut3 hcut4
  generalize Frame.pickOf a 64 = pa at hpa hpk2 hcut3 hcut4
  have H1 := Lib.hid hcut1
  have H2 := Lib.hid hcut2
  have H3 := Lib.hid hcut3
  have H4 := Lib.hid hcut4
  have P1 := Lib.hid hpk1
  have P2 := Lib.hid hpk2
  have HG := Lib.hid hyg
  clear hcut1 hcut2 hcut3 hcut4 hpk1 hpk2 hyg
  go_enter Try.func4, Try.ntmps4
  go_wp2_with fail
  refine (examples_any _).mono ?_
  rintro x w1 ⟨rfl, hB⟩
  have hk1 := HK1.out
  have hj1 := HJ1.out
  have hz := hB.size
  rcases Nat.eq_zero_or_pos ys.length with hy0 | hy0
  · obtain rfl : ys = [] := List.eq_nil_of_length_eq_zero hy0
    have hn00 : n0 = 0 := by have := HYL.out; rw [List.length_nil] at this; omega
    subst hn00
    clear hj1
    rcases b0 with _ | b0
    · go_wp2_with fail
      clear hk1
      go_loopw [12, 13] (fun v12 v13 wr => v13 = .int .i64 0 ∧ v12 = .slice none 0 0 ∧ Below w.heap.size w wr) (fun _ _ _ => 0)
      case atStart => exact ⟨rfl, rfl, hB⟩
      case round =>
        obtain ⟨rfl, rfl, hBw⟩ := hrel
        obtain ⟨P, L11, hp1⟩ : ∃ P : List Fr, Lies wr (.slice none 0 0) 0 4 (P.flatMap Fr.cells) ∧ P.length ≤ 1000000 := ⟨[], ⟨rfl, .inl ⟨rfl, _, _, rfl⟩⟩, by simp⟩
        obtain ⟨Q, L12, hp2⟩ : ∃ P : List Fr, Lies wr (.slice none 0 0) 0 4 (P.flatMap Fr.cells) ∧ P.length ≤ 1000000 := ⟨[], ⟨rfl, .inl ⟨rfl, _, _, rfl⟩⟩, by simp⟩
        have hpe0 : (pe : Int) < 16777215 := by omega
        have hpa0 : (pa : Int) < 64 := by omega
        go_wp2_with fail
        rw [← HTX.out]
        refine (H1.out _).mono ?_
        rintro x w3 ⟨va, rfl, La, hb⟩
        replace L11 := L11.below hb
        replace L12 := L12.below hb
        replace hBw := hBw.trans (hb.mono hBw.size)
        clear hb
        go_wp2_with fail
        refine (H2.out _).mono ?_
        rintro x w4 ⟨vc, rfl, Lc, hb⟩
        replace L11 := L11.below hb
        replace L12 := L12.below hb
        replace La := La.below hb
        replace hBw := hBw.trans (hb.mono hBw.size)
        clear hb
        go_wp2_with fail
        refine (P1.out _).mono ?_
        rintro x w5 ⟨rfl, rfl⟩
        go_wp2_with fail
        refine (P2.out _).mono ?_
        rintro x w5 ⟨rfl, rfl⟩
        go_wp2_with fail
        refine (H3.out _).mono ?_
        rintro x w5 ⟨vd, rfl, Ld, hb⟩
        replace L11 := L11.below hb
        replace L12 := L12.below hb
        replace La := La.below hb
        replace Lc := Lc.below hb
        replace hBw := hBw.trans (hb.mono hBw.size)
        clear hb
        go_wp2_with fail
        refine (P1.out _).mono ?_
        rintro x w6 ⟨rfl, rfl⟩
        go_wp2_with fail
        refine (P2.out _).mono ?_
        rintro x w6 ⟨rfl, rfl⟩
        go_wp2_with fail
        refine (H4.out _).mono ?_
        rintro x w6 ⟨vh, rfl, Lh, hb⟩
        replace L11 := L11.below hb
        replace L12 := L12.below hb
        replace La := La.below hb
        replace Lc := Lc.below hb
        replace Ld := Ld.below hb
        replace hBw := hBw.trans (hb.mono hBw.size)
        clear hb
        go_wp2_with fail
        refine (join_lies P hp1 _ L11).mono ?_
        rintro x w7 ⟨vj, rfl, Oj, hb⟩
        have Lj := Lies.own Oj
        replace L11 := L11.below hb
        replace L12 := L12.below hb
        replace La := La.below hb
        replace Lc := Lc.below hb
        replace Ld := Ld.below hb
        replace Lh := Lh.below hb
        replace hBw := hBw.trans (hb.mono hBw.size)
        clear hb Oj
        go_wp2_with fail
        refine (refJoin_lies P hp1 _ L11).mono ?_
        rintro x w8 ⟨vm, rfl, Om, hb⟩
        have Lm := Lies.own Om
        replace L12 := L12.below hb
        replace La := La.below hb
        replace Lc := Lc.below hb
        replace Ld := Ld.below hb
        replace Lh := Lh.below hb
        replace Lj := Lj.below hb
        replace hBw := hBw.trans (hb.mono hBw.size)
        clear hb Om L11
        have hjl := joinGo_le P
        generalize joinGo P 0 [] [] false 0 = jp at Lj Lm hjl ⊢
        go_wp2_with fail
        refine (join_lies Q hp2 _ L12).mono ?_
        rintro x w9 ⟨vo, rfl, Oo, hb⟩
        have Lo := Lies.own Oo
        replace L12 := L12.below hb
        replace La := La.below hb
        replace Lc := Lc.below hb
        replace Ld := Ld.below hb
        replace Lh := Lh.below hb
        replace Lj := Lj.below hb
        replace Lm := Lm.below hb
        replace hBw := hBw.trans (hb.mono hBw.size)
        clear hb Oo
        go_wp2_with fail
        refine (refJoin_lies Q hp2 _ L12).mono ?_
        rintro x wa ⟨vq, rfl, Oq, hb⟩
        have Lq := Lies.own Oq
        replace La := La.below hb
        replace Lc := Lc.below hb
        replace Ld := Ld.below hb
        replace Lh := Lh.below hb
        replace Lj := Lj.below hb
        replace Lm := Lm.below hb
        replace Lo := Lo.below hb
        replace hBw := hBw.trans (hb.mono hBw.size)
        clear hb Oq L12
        have hql := joinGo_le Q
        generalize joinGo Q 0 [] [] false 0 = jq at Lo Lq hql ⊢
        go_wp2_with fail
        refine (same_lies fa hfa _ La Lc).mono ?_
        rintro x wb ⟨rfl, hb⟩
        replace Ld := Ld.below hb
        replace Lh := Lh.below hb
        replace Lj := Lj.below hb
        replace Lm := Lm.below hb
        replace Lo := Lo.below hb
        replace Lq := Lq.below hb
        replace hBw := hBw.trans (hb.mono hBw.size)
        clear hb La Lc
        go_wp2_with fail
        refine (same_lies fb hfb _ Ld Lh).mono ?_
        rintro x wc ⟨rfl, hb⟩
        replace Lj := Lj.below hb
        replace Lm := Lm.below hb
        replace Lo := Lo.below hb
        replace Lq := Lq.below hb
        replace hBw := hBw.trans (hb.mono hBw.size)
        clear hb Ld Lh
        go_wp2_with fail
        refine (sameTexts_any jp.1 jp.1 _ (by omega) Lj Lm).mono ?_
        rintro x wd ⟨rfl, hb⟩
        rw [show decide (jp.1 = jp.1) = true from decide_eq_true rfl]
        replace Lo := Lo.below hb
        replace Lq := Lq.below hb
        replace hBw := hBw.trans (hb.mono hBw.size)
        clear hb Lj Lm
        go_wp2_with fail
        refine (sameTexts_any jq.1 jq.1 _ (by omega) Lo Lq).mono ?_
        rintro x we ⟨rfl, hb⟩
        rw [show decide (jq.1 = jq.1) = true from decide_eq_true rfl]
        replace hBw := hBw.trans (hb.mono hBw.size)
        clear hb Lo Lq
        go_wp2_with fail
        go_ret
        exact ⟨by simp, hBw⟩
    · go_wp2_with fail
      clear hk1
      go_loopw [12, 13] (fun v12 v13 wr => v13 = .int .i64 0 ∧ v12 = .slice none 0 0 ∧ Below w.heap.size w wr) (fun _ _ _ => 0)
      case atStart => exact ⟨rfl, rfl, hB⟩
      case round =>
        obtain ⟨rfl, rfl, hBw⟩ := hrel
        obtain ⟨P, L11, hp1⟩ : ∃ P : List Fr, Lies wr (.slice none 0 0) 0 4 (P.flatMap Fr.cells) ∧ P.length ≤ 1000000 := ⟨[], ⟨rfl, .inl ⟨rfl, _, _, rfl⟩⟩, by simp⟩
        obtain ⟨Q, L12, hp2⟩ : ∃ P : List Fr, Lies wr (.slice none 0 0) 0 4 (P.flatMap Fr.cells) ∧ P.length ≤ 1000000 := ⟨[], ⟨rfl, .inl ⟨rfl, _, _, rfl⟩⟩, by simp⟩
        have hpe0 : (pe : Int) < 16777215 := by omega
        have hpa0 : (pa : Int) < 64 := by omega
        go_wp2_with fail
        rw [← HTX.out]
        refine (H1.out _).mono ?_
        rintro x w3 ⟨va, rfl, La, hb⟩
        replace L11 := L11.below hb
        replace L12 := L12.below hb
        replace hBw := hBw.trans (hb.mono hBw.size)
        clear hb
        go_wp2_with fail
        refine (H2.out _).mono ?_
        rintro x w4 ⟨vc, rfl, Lc, hb⟩
        replace L11 := L11.below hb
        replace L12 := L12.below hb
        replace La := La.below hb
        replace hBw := hBw.trans (hb.mono hBw.size)
        clear hb
        go_wp2_with fail
        refine (P1.out _).mono ?_
        rintro x w5 ⟨rfl, rfl⟩
        go_wp2_with fail
        refine (P2.out _).mono ?_
        rintro x w5 ⟨rfl, rfl⟩
        go_wp2_with fail
        refine (H3.out _).mono ?_
        rintro x w5 ⟨vd, rfl, Ld, hb⟩
        replace L11 := L11.below hb
        replace L12 := L12.below hb
        replace La := La.below hb
        replace Lc := Lc.below hb
        replace hBw := hBw.trans (hb.mono hBw.size)
        clear hb
        go_wp2_with fail
        refine (P1.out _).mono ?_
        rintro x w6 ⟨rfl, rfl⟩
        go_wp2_with fail
        refine (P2.out _).mono ?_
        rintro x w6 ⟨rfl, rfl⟩
        go_wp2_with fail
        refine (H4.out _).mono ?_
        rintro x w6 ⟨vh, rfl, Lh, hb⟩
        replace L11 := L11.below hb
        replace L12 := L12.below hb
        replace La := La.below hb
        replace Lc := Lc.below hb
        replace Ld := Ld.below hb
        replace hBw := hBw.trans (hb.mono hBw.size)
        clear hb
        go_wp2_with fail
        refine (join_lies P hp1 _ L11).mono ?_
        rintro x w7 ⟨vj, rfl, Oj, hb⟩
        have Lj := Lies.own Oj
        replace L11 := L11.below hb
        replace L12 := L12.below hb
        replace La := La.below hb
        replace Lc := Lc.below hb
        replace Ld := Ld.below hb
        replace Lh := Lh.below hb
        replace hBw := hBw.trans (hb.mono hBw.size)
        clear hb Oj
        go_wp2_with fail
        refine (refJoin_lies P hp1 _ L11).mono ?_
        rintro x w8 ⟨vm, rfl, Om, hb⟩
        have Lm := Lies.own Om
        replace L12 := L12.below hb
        replace La := La.below hb
        replace Lc := Lc.below hb
        replace Ld := Ld.below hb
        replace Lh := Lh.below hb
        replace Lj := Lj.below hb
        replace hBw := hBw.trans (hb.mono hBw.size)
        clear hb Om L11
        have hjl := joinGo_le P
        generalize joinGo P 0 [] [] false 0 = jp at Lj Lm hjl ⊢
        go_wp2_with fail
        refine (join_lies Q hp2 _ L12).mono ?_
        rintro x w9 ⟨vo, rfl, Oo, hb⟩
        have Lo := Lies.own Oo
        replace L12 := L12.below hb
        replace La := La.below hb
        replace Lc := Lc.below hb
        replace Ld := Ld.below hb
        replace Lh := Lh.below hb
        replace Lj := Lj.below hb
        replace Lm := Lm.below hb
        replace hBw := hBw.trans (hb.mono hBw.size)
        clear hb Oo
        go_wp2_with fail
        refine (refJoin_lies Q hp2 _ L12).mono ?_
        rintro x wa ⟨vq, rfl, Oq, hb⟩
        have Lq := Lies.own Oq
        replace La := La.below hb
        replace Lc := Lc.below hb
        replace Ld := Ld.below hb
        replace Lh := Lh.below hb
        replace Lj := Lj.below hb
        replace Lm := Lm.below hb
        replace Lo := Lo.below hb
        replace hBw := hBw.trans (hb.mono hBw.size)
        clear hb Oq L12
        have hql := joinGo_le Q
        generalize joinGo Q 0 [] [] false 0 = jq at Lo Lq hql ⊢
        go_wp2_with fail
        refine (same_lies fa hfa _ La Lc).mono ?_
        rintro x wb ⟨rfl, hb⟩
        replace Ld := Ld.below hb
        replace Lh := Lh.below hb
        replace Lj := Lj.below hb
        replace Lm := Lm.below hb
        replace Lo := Lo.below hb
        replace Lq := Lq.below hb
        replace hBw := hBw.trans (hb.mono hBw.size)
        clear hb La Lc
        go_wp2_with fail
        refine (same_lies fb hfb _ Ld Lh).mono ?_
        rintro x wc ⟨rfl, hb⟩
        replace Lj := Lj.below hb
        replace Lm := Lm.below hb
        replace Lo := Lo.below hb
        replace Lq := Lq.below hb
        replace hBw := hBw.trans (hb.mono hBw.size)
        clear hb Ld Lh
        go_wp2_with fail
        refine (sameTexts_any jp.1 jp.1 _ (by omega) Lj Lm).mono ?_
        rintro x wd ⟨rfl, hb⟩
        rw [show decide (jp.1 = jp.1) = true from decide_eq_true rfl]
        replace Lo := Lo.below hb
        replace Lq := Lq.below hb
        replace hBw := hBw.trans (hb.mono hBw.size)
        clear hb Lj Lm
        go_wp2_with fail
        refine (sameTexts_any jq.1 jq.1 _ (by omega) Lo Lq).mono ?_
        rintro x we ⟨rfl, hb⟩
        rw [show decide (jq.1 = jq.1) = true from decide_eq_true rfl]
        replace hBw := hBw.trans (hb.mono hBw.size)
        clear hb Lo Lq
        go_wp2_with fail
        go_ret
        exact ⟨by simp, hBw⟩
  · obtain ⟨bb, off, c', hv, hblt, hcell⟩ : ∃ b off c, (Value.slice b0 ys.length c0) = .slice (some ⟨b, off, none⟩) ys.length c ∧ b < w.heap.size ∧ ∀ j u, (ys.flatMap Fr.cells)[j]? = some u → w.cell? ⟨b, off + j, none⟩ = some u := by
      rcases HLY.out.2 with ⟨h0, _⟩ | h
      · omega
      · exact h
    simp at hv
    obtain ⟨hv1, hv2⟩ := hv
    subst hv1
    subst hv2
    have hLw := HLY.out.1
    have HN := Lib.hid (⟨hB, hblt, hcell⟩ : Below w.heap.size w w1 ∧ bb < w.heap.size ∧ ∀ j u, (ys.flatMap Fr.cells)[j]? = some u → w.cell? ⟨bb, off + j, none⟩ = some u)
    have hone : ∀ u ∈ ys.flatMap Fr.cells, u.oneCell' = true := fun u hu => by
      obtain ⟨f, _, hf⟩ := List.mem_flatMap.1 hu
      simp [Fr.cells] at hf
      rcases hf with rfl | rfl | rfl | rfl <;> rfl
    have HONE := Lib.hid hone
    have HLW := Lib.hid hLw
    clear hcell hone hLw
    go_wp2_with (at_builtin; refine wpList_append_lies _ rfl _ _ _ rfl w.heap.size 23 i0 _ 4 40 Try.underlying35 hi hz0 hz1 hz2 rfl (by omega) _ 0 [] rfl (World.ownsRow_nil _ _ _ _) ⟨bb, off, none⟩ ys.length c0 (ys.flatMap Fr.cells) rfl HLW.out (fun j u hu => by rw [add_plain]; exact (HN.out.1.cell (p := ⟨bb, off + j, none⟩) HN.out.2.1).trans (HN.out.2.2 j u hu)) HONE.out (by omega) (by simp [maxLen]; omega) (by omega) hz w1.heap.size rfl ?_; intro g cap w2 hown hgrow hat hlt2)
    have hgrow' : w1.grownBy w2 none := hgrow
    have hCI : CI w w2 ys 0 (some ⟨g, 0, none⟩) cap (.slice none 0 0) := ⟨by rw [Nat.zero_add] at hown; simpa using hown, World.ownsRow_nil _ _ _ _, fun a _ => by simp [Value.ownBlock], fun _ => ⟨g, rfl⟩, (hB.grown hgrow' hz (fun q hq => by cases hq))⟩
    clear hown hgrow hgrow' hat hlt2 hj1 hk1
    go_loopw [12, 13] (fun v12 v13 wr => ∃ i : Nat, i ≤ ys.length ∧ v13 = .int .i64 (i : Int) ∧ CI w wr ys i (some ⟨g, 0, none⟩) cap v12) (fun _ v _ => ys.length - (intOf v).toNat)
    case atStart => exact ⟨0, Nat.zero_le _, rfl, hCI⟩
    case round =>
      obtain ⟨i, hil, rfl, hC⟩ := hrel
      by_cases hlt : i < ys.length
      · have hlc : ((ys.take i).map cutF ++ ys.drop i).length = ys.length := by simp; omega
        have hcells : ∀ j u, ys[i].cells[j]? = some u → wr.cell? ⟨g, i * 4 + j, none⟩ = some u := fun j u hu => by
          refine owned_cell hC.few (i * 4 + j) u ?_
          rw [flat_at _ i (by rw [hlc]; exact hlt) j (cells_lt hu), cur_at ys i hlt]
          exact hu
        have hset := set_cells _ i (by rw [hlc]; exact hlt) (cutS ys[i].s)
        rw [cur_at ys i hlt, show (⟨ys[i].e, ys[i].a, ys[i].k, cutS ys[i].s⟩ : Fr) = cutF ys[i] from rfl, cur_set ys i hlt] at hset
        have hfew := owned_set hC.few (j := i * 4 + 3) (by omega) (.string (cutS ys[i].s))
        rw [hset] at hfew
        have hcells2 : ∀ j u, (cutF ys[i]).cells[j]? = some u → (wr.setCell ⟨g, i * 4 + 3, none⟩ (.string (cutS ys[i].s))).cell? ⟨g, i * 4 + j, none⟩ = some u := fun j u hu => by
          refine owned_cell hfew (i * 4 + j) u ?_
          rw [flat_at _ i (by simp; omega) j (cells_lt hu), cur_at2 ys i hlt]
          exact hu
        have hsn := right_snoc ys i hlt
        have hfg := HG.out ys[i] (List.getElem_mem _)
        have hfz := owned_free hC.few (i * 4 + 3)
        generalize ys[i] = f at hcells hcells2 hfew hsn hfg
        obtain ⟨fe, fa', fk, fs'⟩ := f
        have c0' : wr.cell? ⟨g, i * 4, none⟩ = some (.int .i64 fe) := hcells 0 _ rfl
        have c1' : wr.cell? ⟨g, i * 4 + 1, none⟩ = some (.int .i64 fa') := hcells 1 _ rfl
        have c2' : wr.cell? ⟨g, i * 4 + 2, none⟩ = some (.int .i64 fk) := hcells 2 _ rfl
        have c3' : wr.cell? ⟨g, i * 4 + 3, none⟩ = some (.string fs') := hcells 3 _ rfl
        have hsz : fs'.size ≤ maxLen := hfg.s
        unfold maxLen at hsz
        have hmq := min_eq fs'.size 70
        have hq2 : min fs'.size 70 ≤ fs'.size := by omega
        have hcs : cutS fs' = fs'.extract 0 (min fs'.size 70) := rfl
        have hcl := cutS_le fs'
        have hof := frameOf_any fe fa' fk (cutS fs') hfg.e hfg.a hfg.k (Nat.le_trans hcl (by unfold maxLen; omega))
        generalize min fs'.size 70 = q at hmq hq2 hcs
        have hmq' : (if (70 : Int) < (fs'.size : Int) then (70 : Int) else (fs'.size : Int)) = (q : Int) := hmq
        have hq3 : (q : Int) ≤ (fs'.size : Int) := by omega
        have hq4 : (0 : Int) ≤ (q : Int) := by omega
        have d0 : (0 : Int) ≤ (i : Int) := by omega
        have d1 : (i : Int) < (ys.length : Int) := by omega
        have HC2 := Lib.hid hcells2
        have HOF := Lib.hid hof
        have HCS := Lib.hid hcs
        have HC := Lib.hid hC
        have HFEW := Lib.hid hfew
        have HSN := Lib.hid hsn
        clear hcells hcells2 hset hlc hof hcs hC hfew hsn hmq hB
        go_wp2_with fail
        go_region
        rw [← HCS.out]
        have hfew2 : (wr.setCell ⟨g, i * 4 + 3, none⟩ (.string (cutS fs'))).drew.ownsRow w.heap.size 23 4 (.slice (some ⟨g, 0, none⟩) ys.length cap) ys.length (((ys.take (i + 1)).map cutF ++ ys.drop (i + 1)).flatMap Fr.cells) := HFEW.out
        have hcell2 : ∀ j u, (cutF ⟨fe, fa', fk, fs'⟩).cells[j]? = some u → (wr.setCell ⟨g, i * 4 + 3, none⟩ (.string (cutS fs'))).drew.cell? ⟨g, i * 4 + j, none⟩ = some u := HC2.out
        have hG : wr.grownBy (wr.setCell ⟨g, i * 4 + 3, none⟩ (.string (cutS fs'))).drew (some g) := by
          have h := grownBy_set (show wr.grownBy wr (some g) from ⟨rfl, rfl, rfl, Nat.le_refl _, fun _ _ _ => rfl⟩) (i * 4 + 3) (.string (cutS fs'))
          exact ⟨h.os, h.tape, h.output, h.size, h.block⟩
        have hap := HC.out.apart _ rfl
        have hright2 := HC.out.right.kept hG (.inr hap)
        have hgb : w.heap.size ≤ g := (HC.out.few.lt g rfl).1
        have hB2 : Below w.heap.size w (wr.setCell ⟨g, i * 4 + 3, none⟩ (.string (cutS fs'))).drew := (HC.out.below.setCell (p := ⟨g, i * 4 + 3, none⟩) hgb _).drew
        generalize (wr.setCell ⟨g, i * 4 + 3, none⟩ (.string (cutS fs'))).drew = W2 at hfew2 hcell2 hright2 hB2 ⊢
        have e0 : W2.cell? ⟨g, i * 4, none⟩ = some (.int .i64 fe) := hcell2 0 _ rfl
        have e1 : W2.cell? ⟨g, i * 4 + 1, none⟩ = some (.int .i64 fa') := hcell2 1 _ rfl
        have e2 : W2.cell? ⟨g, i * 4 + 2, none⟩ = some (.int .i64 fk) := hcell2 2 _ rfl
        have e3 : W2.cell? ⟨g, i * 4 + 3, none⟩ = some (.string (cutS fs')) := hcell2 3 _ rfl
        clear c0' c1' c2' c3' hcell2 hG HC HFEW HC2 hmq' hfz
        go_wp2_with fail
        clear e0 e1 e2 e3
        refine (HOF.out _).mono ?_
        rintro x W3 ⟨rfl, hB3⟩
        have hfew3 := owned_below hfew2 hB3
        have hright3 := owned_below hright2 hB3
        have hBw := hB2.trans (hB3.mono hB2.size)
        have hzw := hBw.size
        have hgl : g < W3.heap.size := (hfew3.lt g rfl).2
        clear hfew2 hright2 hB2 hB3
        generalize hE : (1 + Frame.pickOf fe 16777215 : Nat) = E at *
        generalize hA : Frame.pickOf fa' 64 = A at *
        generalize hK : (1 + Frame.pickOf fk 4 : Nat) = K0 at *
        generalize hT : (if 53 < (cutS fs').size then (cutS fs').extract 0 53 else cutS fs') = T at *
        have hofc : (ofF (cutF ⟨fe, fa', fk, fs'⟩)).cells = [.int .i64 (E : Int), .int .i64 (A : Int), .int .i64 (K0 : Int), .string T] := by rw [← hE, ← hA, ← hK, ← hT]; rfl
        have HOFC := Lib.hid hofc
        clear hE hA hK hT hofc
        go_wp2_with (at_builtin; refine wpList_append_lies _ rfl _ _ _ rfl w.heap.size 23 i0 _ 4 40 Try.underlying35 hi hz0 hz1 hz2 rfl (by omega) _ i _ rfl (hright3.alloc _) ⟨W3.heap.size, 0, none⟩ 1 1 [.int .i64 (E : Int), .int .i64 (A : Int), .int .i64 (K0 : Int), .string T] rfl rfl (World.news_of_block (cs := #[.int .i64 (E : Int), .int .i64 (A : Int), .int .i64 (K0 : Int), .string T]) (t := 23) (fr := (0, 0)) (World.alloc_heap_new W3 _)) (by simp [Value.oneCell']) (by omega) (by simp [maxLen]; omega) (by omega) (by simp; omega) (W3.heap.size + 1) (by simp) ?_; intro gg cap4 W4 hown4 hgrow4 hat4 hlt4)
        have hB4 : Below w.heap.size w W4 := (hBw.alloc hzw _).grown hgrow4 (by simp; omega) (fun q hq => (hright3.lt q hq).1)
        have hfew4 := (hfew3.alloc (.cells #[.int .i64 (E : Int), .int .i64 (A : Int), .int .i64 (K0 : Int), .string T] 23)).kept hgrow4 (.inr (fun h => hap h.symm))
        refine ⟨⟨i + 1, by omega, by go_num, ⟨hfew4, by rw [HSN.out, HOFC.out]; exact hown4, fun a ha h => ?_, fun _ => ⟨g, rfl⟩, hB4⟩⟩, by simp [intOf]; omega⟩
        cases ha
        have hgg : gg = g := by simpa [Value.ownBlock] using h
        rcases hat4 with h4 | h4
        · exact hap (by rw [← hgg]; exact h4)
        · omega
      · obtain rfl : i = ys.length := by omega
        have hf0 := hC.few
        have hr0 := hC.right
        rw [List.take_of_length_le (Nat.le_refl _), List.drop_eq_nil_of_le (Nat.le_refl _), List.append_nil] at hf0
        rw [List.take_of_length_le (Nat.le_refl _)] at hr0
        have L11 := Lies.own hf0
        have L12 := Lies.own hr0
        have hp1 : (ys.map cutF).length ≤ 1000000 := by rw [List.length_map]; omega
        have hp2 : (ys.map fun f => ofF (cutF f)).length ≤ 1000000 := by rw [List.length_map]; omega
        have hBw := hC.below
        obtain ⟨p12, c12, hv12, _, _⟩ := row_slice' hr0
        subst hv12
        clear hf0 hr0 hC hB
        generalize ys.map cutF = P at L11 hp1
        generalize (ys.map fun f => ofF (cutF f)) = Q at L12 hp2
        have hpe0 : (pe : Int) < 16777215 := by omega
        have hpa0 : (pa : Int) < 64 := by omega
        go_wp2_with fail
        rw [← HTX.out]
        refine (H1.out _).mono ?_
        rintro x w3 ⟨va, rfl, La, hb⟩
        replace L11 := L11.below hb
        replace L12 := L12.below hb
        replace hBw := hBw.trans (hb.mono hBw.size)
        clear hb
        go_wp2_with fail
        refine (H2.out _).mono ?_
        rintro x w4 ⟨vc, rfl, Lc, hb⟩
        replace L11 := L11.below hb
        replace L12 := L12.below hb
        replace La := La.below hb
        replace hBw := hBw.trans (hb.mono hBw.size)
        clear hb
        go_wp2_with fail
        refine (P1.out _).mono ?_
        rintro x w5 ⟨rfl, rfl⟩
        go_wp2_with fail
        refine (P2.out _).mono ?_
        rintro x w5 ⟨rfl, rfl⟩
        go_wp2_with fail
        refine (H3.out _).mono ?_
        rintro x w5 ⟨vd, rfl, Ld, hb⟩
        replace L11 := L11.below hb
        replace L12 := L12.below hb
        replace La := La.below hb
        replace Lc := Lc.below hb
        replace hBw := hBw.trans (hb.mono hBw.size)
        clear hb
        go_wp2_with fail
        refine (P1.out _).mono ?_
        rintro x w6 ⟨rfl, rfl⟩
        go_wp2_with fail
        refine (P2.out _).mono ?_
        rintro x w6 ⟨rfl, rfl⟩
        go_wp2_with fail
        refine (H4.out _).mono ?_
        rintro x w6 ⟨vh, rfl, Lh, hb⟩
        replace L11 := L11.below hb
        replace L12 := L12.below hb
        replace La := La.below hb
        replace Lc := Lc.below hb
        replace Ld := Ld.below hb
        replace hBw := hBw.trans (hb.mono hBw.size)
        clear hb
        go_wp2_with fail
        refine (join_lies P hp1 _ L11).mono ?_
        rintro x w7 ⟨vj, rfl, Oj, hb⟩
        have Lj := Lies.own Oj
        replace L11 := L11.below hb
        replace L12 := L12.below hb
        replace La := La.below hb
        replace Lc := Lc.below hb
        replace Ld := Ld.below hb
        replace Lh := Lh.below hb
        replace hBw := hBw.trans (hb.mono hBw.size)
        clear hb Oj
        go_wp2_with fail
        refine (refJoin_lies P hp1 _ L11).mono ?_
        rintro x w8 ⟨vm, rfl, Om, hb⟩
        have Lm := Lies.own Om
        replace L12 := L12.below hb
        replace La := La.below hb
        replace Lc := Lc.below hb
        replace Ld := Ld.below hb
        replace Lh := Lh.below hb
        replace Lj := Lj.below hb
        replace hBw := hBw.trans (hb.mono hBw.size)
        clear hb Om L11
        have hjl := joinGo_le P
        generalize joinGo P 0 [] [] false 0 = jp at Lj Lm hjl ⊢
        go_wp2_with fail
        refine (join_lies Q hp2 _ L12).mono ?_
        rintro x w9 ⟨vo, rfl, Oo, hb⟩
        have Lo := Lies.own Oo
        replace L12 := L12.below hb
        replace La := La.below hb
        replace Lc := Lc.below hb
        replace Ld := Ld.below hb
        replace Lh := Lh.below hb
        replace Lj := Lj.below hb
        replace Lm := Lm.below hb
        replace hBw := hBw.trans (hb.mono hBw.size)
        clear hb Oo
        go_wp2_with fail
        refine (refJoin_lies Q hp2 _ L12).mono ?_
        rintro x wa ⟨vq, rfl, Oq, hb⟩
        have Lq := Lies.own Oq
        replace La := La.below hb
        replace Lc := Lc.below hb
        replace Ld := Ld.below hb
        replace Lh := Lh.below hb
        replace Lj := Lj.below hb
        replace Lm := Lm.below hb
        replace Lo := Lo.below hb
        replace hBw := hBw.trans (hb.mono hBw.size)
        clear hb Oq L12
        have hql := joinGo_le Q
        generalize joinGo Q 0 [] [] false 0 = jq at Lo Lq hql ⊢
        go_wp2_with fail
        refine (same_lies fa hfa _ La Lc).mono ?_
        rintro x wb ⟨rfl, hb⟩
        replace Ld := Ld.below hb
        replace Lh := Lh.below hb
        replace Lj := Lj.below hb
        replace Lm := Lm.below hb
        replace Lo := Lo.below hb
        replace Lq := Lq.below hb
        replace hBw := hBw.trans (hb.mono hBw.size)
        clear hb La Lc
        go_wp2_with fail
        refine (same_lies fb hfb _ Ld Lh).mono ?_
        rintro x wc ⟨rfl, hb⟩
        replace Lj := Lj.below hb
        replace Lm := Lm.below hb
        replace Lo := Lo.below hb
        replace Lq := Lq.below hb
        replace hBw := hBw.trans (hb.mono hBw.size)
        clear hb Ld Lh
        go_wp2_with fail
        refine (sameTexts_any jp.1 jp.1 _ (by omega) Lj Lm).mono ?_
        rintro x wd ⟨rfl, hb⟩
        rw [show decide (jp.1 = jp.1) = true from decide_eq_true rfl]
        replace Lo := Lo.below hb
        replace Lq := Lq.below hb
        replace hBw := hBw.trans (hb.mono hBw.size)
        clear hb Lj Lm
        go_wp2_with fail
        refine (sameTexts_any jq.1 jq.1 _ (by omega) Lo Lq).mono ?_
        rintro x we ⟨rfl, hb⟩
        rw [show decide (jq.1 = jq.1) = true from decide_eq_true rfl]
        replace hBw := hBw.trans (hb.mono hBw.size)
        clear hb Lo Lq
        go_wp2_with fail
        go_ret
        exact ⟨by simp, hBw⟩
end Go.Proofs.Ytlnfjddacafpgaa

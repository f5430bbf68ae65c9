/- The walk of FrameRots. -/
import Derived.Deep.QuietTactic
import Derived.BigQuiet
import Derived.Test.YtnoegbogalfdgaaFrameKit
import Derived.Test.YtnoegbogalfdgaaDiskSt
set_option linter.unusedSimpArgs false
set_option linter.unusedVariables false
namespace Wire
end Wire
namespace Go.Proofs.Ytnoegbogalfdgaa
open Go Go.RowKit Wire

def secOf (f : Fr) : List UInt8 := Frame.lay f.e.toNat f.a.toNat f.k.toNat f.s.data.toList
/-- a frame that may be laid -/
structure Fr.fine (f : Fr) : Prop where
  e : 0 ≤ f.e
  a : 0 ≤ f.a
  k : 0 ≤ f.k
  right : Frame.right f.e f.a f.k f.s.data.toList = true
theorem frames_fine (x : Item) (h : x.good) (hc : x.closed = false) : ∀ f ∈ x.frames, f.fine := fun f hf => by
  unfold Item.frames at hf
  rw [hc] at hf
  simp only [Bool.false_eq_true, if_false, List.append_nil] at hf
  obtain ⟨i, hi, rfl⟩ := List.mem_map.1 hf
  have hr := fr_right x h (List.mem_range.1 hi)
  refine ⟨?_, ?_, ?_, hr⟩
  · show (0 : Int) ≤ (x.ep : Int); omega
  · show (0 : Int) ≤ (x.at' : Int) + (i : Int); omega
  · show (0 : Int) ≤ if i + 1 = x.n then (3 : Int) else 2; split <;> omega
theorem fine_len {f : Fr} (h : f.fine) : (secOf f).length = 64 := by
  have := h.right
  unfold Frame.right at this
  simp only [decide_eq_true_eq] at this
  exact Frame.lay_length _ _ _ _ this.2.2.2.2.2.2
theorem fine_agg {f : Fr} (h : f.fine) : Value.agg #[.int .i64 f.e, .int .i64 f.a, .int .i64 f.k, .string f.s] = frameV f.e.toNat f.a.toNat f.k.toNat f.s := by
  unfold frameV
  rw [Int.toNat_of_nonneg h.e, Int.toNat_of_nonneg h.a, Int.toNat_of_nonneg h.k]
theorem fine_right {f : Fr} (h : f.fine) : Frame.right (f.e.toNat : Nat) (f.a.toNat : Nat) (f.k.toNat : Nat) f.s.data.toList = true := by
  rw [Int.toNat_of_nonneg h.e, Int.toNat_of_nonneg h.a, Int.toNat_of_nonneg h.k]; exact h.right
theorem lay_fine {f : Fr} (h : f.fine) (w : World) : Calls Try.prog 8 #[.agg #[.int .i64 f.e, .int .i64 f.a, .int .i64 f.k, .string f.s]] w fun x w' => x = .returned (.tuple #[.string ⟨(secOf f).toArray⟩, .int .i64 0]) ∧ Below w.heap.size w w' := by
  rw [fine_agg h]
  exact lay_good _ _ _ _ (fine_right h) w
theorem read_fine {f : Fr} (h : f.fine) (w : World) : Calls Try.prog 13 #[.string ⟨(secOf f).toArray⟩] w fun x w' => x = .returned (.tuple #[.agg #[.int .i64 f.e, .int .i64 f.a, .int .i64 f.k, .string f.s], .int .i64 0]) ∧ Below w.heap.size w w' := by
  rw [fine_agg h]
  exact read_some _ _ _ _ (fine_right h) w
theorem read_turned {f : Fr} (h : f.fine) (i : Nat) (hi : i < 64) (x : UInt8) (hx : (secOf f)[i]? ≠ some x) (w : World) : Calls Try.prog 13 #[.string ⟨((secOf f).set i x).toArray⟩] w fun y w' => y = noFrame ∧ Below w.heap.size w w' := by
  have hl : ∀ {e a k : Int} {t : List UInt8}, Frame.right e a k t = true → t.length ≤ 53 := fun h => by
    unfold Frame.right at h; simp only [decide_eq_true_eq] at h; exact h.2.2.2.2.2.2
  exact read_none _ (fun e' a' k' t' hr' he => Frame.lay_turned (hl h.right) hi hx (hl hr') he.symm) w

/-- what the first loop keeps -/
structure FR (w W : World) (l : List Item) (v12 v13 : Value) : Prop where
  good : ∀ x ∈ l, x.good
  len : ∀ x ∈ l, x.n ≤ 3
  closed : ∀ x ∈ l, x.closed = false
  r12 : W.ownsRow w.heap.size 34 4 v12 (total l) ((l.flatMap Item.frames).flatMap Fr.cells)
  r13 : W.ownsRow w.heap.size 9 1 v13 l.length ((l.map Item.s).map .string)
theorem FR.more {w W W' : World} {l : List Item} {v12 v13 : Value} (h : FR w W l v12 v13) (hb : Below W.heap.size W W') : FR w W' l v12 v13 :=
  ⟨h.good, h.len, h.closed, owned_below h.r12 hb, owned_below h.r13 hb⟩
theorem total_le3 {l : List Item} (h : ∀ x ∈ l, x.n ≤ 3) (hc : ∀ x ∈ l, x.closed = false) : total l ≤ 3 * l.length := by
  induction l with
  | nil => simp [total]
  | cons x r ih =>
    have ht : total (x :: r) = x.len + total r := by simp [total]
    have h1 := ih (fun y hy => h y (List.mem_cons_of_mem _ hy)) (fun y hy => hc y (List.mem_cons_of_mem _ hy))
    have h2 := h x List.mem_cons_self
    have h3 : x.len = x.n := by unfold Item.len; rw [hc x List.mem_cons_self]; simp
    rw [ht, List.length_cons]; omega
theorem total_snoc (l : List Item) (x : Item) : total (l ++ [x]) = total l + x.len := by simp [total]
theorem FR.snoc {w W : World} {l : List Item} {x : Item} {v12 v13 : Value} (hg : ∀ y ∈ l, y.good) (hl : ∀ y ∈ l, y.n ≤ 3) (hc : ∀ y ∈ l, y.closed = false) (hx : x.good) (hx3 : x.n ≤ 3) (hxc : x.closed = false)
    (r12 : W.ownsRow w.heap.size 34 4 v12 (total l + x.n) ((l.flatMap Item.frames).flatMap Fr.cells ++ Frame.parts x.ep x.at' x.n x.s x.n))
    (r13 : W.ownsRow w.heap.size 9 1 v13 (l.length + 1) ((l.map Item.s).map .string ++ [.string x.s])) : FR w W (l ++ [x]) v12 v13 := by
  have hxl : x.len = x.n := by unfold Item.len; rw [hxc]; simp
  refine ⟨fun y hy => ?_, fun y hy => ?_, fun y hy => ?_, ?_, ?_⟩
  · rcases List.mem_append.1 hy with h | h
    · exact hg y h
    · rw [List.mem_singleton.1 h]; exact hx
  · rcases List.mem_append.1 hy with h | h
    · exact hl y h
    · rw [List.mem_singleton.1 h]; exact hx3
  · rcases List.mem_append.1 hy with h | h
    · exact hc y h
    · rw [List.mem_singleton.1 h]; exact hxc
  · rw [total_snoc, hxl, List.flatMap_append, List.flatMap_append]
    rw [parts_frames x hxc] at r12
    simpa using r12
  · simpa using r13

/-- a row of another type is none of a disk's blocks -/
theorem Did.rowE {B r kb : Nat} {W W' : World} {pv pv' v : Value} {d d' : DS} {b n size : Nat} {e : TypeId} {xs : List Value} (h : Did B W W' r kb pv pv' d') (h0 : DAt B W r kb pv d) (ho : W.ownsRow b e size v n xs) (he : e ≠ 56 ∧ e ≠ 63 ∧ e ≠ 65) : W'.ownsRow b e size v n xs := by
  refine ⟨ho.1, ?_⟩
  rcases ho.2 with hv | ⟨g, cap, cur, hv, hg, hc, r⟩
  · exact .inl hv
  · exact .inr ⟨g, cap, cur, hv, hg, h.foreign h0 hc he, r⟩
/-- sectors that frames were written to, in turn -/
def Put (Fs : List Fr) (P : List (Nat × List UInt8)) (i : Nat) : Prop := P.length = i ∧ ∀ (j : Nat) (f : Fr), j < i → Fs[j]? = some f → ∀ K, lastOf K P j = secOf f
theorem Put.zero (Fs : List Fr) : Put Fs [] 0 := ⟨rfl, fun j f h => absurd h (by omega)⟩
theorem Put.succ {Fs : List Fr} {P : List (Nat × List UInt8)} {i : Nat} (h : Put Fs P i) {f : Fr} (hf : Fs[i]? = some f) : Put Fs (P ++ [(i, secOf f)]) (i + 1) := by
  refine ⟨by simp [h.1], fun j g hj hg K => ?_⟩
  rw [lastOf_snoc]
  by_cases hij : i = j
  · subst hij
    rw [if_pos rfl]
    rw [hf] at hg
    rw [Option.some.inj hg]
  · rw [if_neg hij]
    exact h.2 j g (by omega) hg K
theorem zeros64_len : (zeros 64).kept.length = 64 := by simp [zeros]

set_option maxRecDepth 100000 in
set_option maxHeartbeats 8000000 in
theorem frameRots_walk (b0 : Option Addr) (n0 c0 : Nat) (xs0 : List ByteArray) (wh pl mk : Int) (w : World) (hn0 : xs0.length = n0) (hc0 : n0 ≤ c0) (hm0 : c0 ≤ maxLen) (hL0 : Lies w (.slice b0 n0 c0) n0 1 (xs0.map .string)) (hg0 : ∀ s ∈ xs0, s.size ≤ maxLen)
    (hwh : 0 ≤ wh ∧ wh ≤ 255) (hpl : 0 ≤ pl ∧ pl ≤ 255) (hmk : 0 ≤ mk ∧ mk ≤ 255) :
    Calls Try.prog 3 #[.slice b0 n0 c0, .int .u8 wh, .int .u8 pl, .int .u8 mk] w fun x w' => x = .returned (.bool true) ∧ Below w.heap.size w w' := by
  unfold maxLen at hm0
  obtain ⟨wh, rfl⟩ : ∃ K : Nat, wh = (K : Int) := ⟨wh.toNat, by omega⟩
  obtain ⟨pl, rfl⟩ : ∃ K : Nat, pl = (K : Int) := ⟨pl.toNat, by omega⟩
  obtain ⟨mk, rfl⟩ : ∃ K : Nat, mk = (K : Int) := ⟨mk.toNat, by omega⟩
  have hA : ∀ k, k < n0 → ∃ b off s, b0 = some ⟨b, off, none⟩ ∧ b < w.heap.size ∧ s.size ≤ maxLen ∧ w.cell? ⟨b, off + k, none⟩ = some (.string s) := fun k hk => by
    rcases hL0.2 with ⟨h0, _⟩ | ⟨b, off, c, hv, hlt, hc⟩
    · omega
    · simp at hv
      refine ⟨b, off, xs0[k], hv.1, hlt, hg0 _ (List.getElem_mem _), hc k _ ?_⟩
      rw [List.getElem?_map, List.getElem?_eq_getElem (by omega)]; rfl
  have HA := Lib.hid hA
  clear hA hL0 hg0 hn0 xs0
  obtain ⟨i0, hi, hz0, hz1, hz2⟩ := info_parts infoFrame
  obtain ⟨is, his, hs0, hs1, hs2⟩ := info_parts infoStr
  have h0 := St.nil w
  go_enter Try.func3, Try.ntmps3
  go_wp2_with fail
  refine (examples_any _).mono ?_
  rintro x w1 ⟨rfl, hB⟩
  have hS := h0.below hB
  clear h0 hB
  go_wp2_with fail
  refine (new_ok 64 (by decide) (by decide) w1.heap.size w1 (Nat.le_refl _)).mono ?_
  rintro x w2 ⟨r, kb, rfl, hD, hB, _, _⟩
  replace hS : St w [⟨r, kb, .slice none 0 0, zeros 64⟩] w2 := hS.new hB hD
  clear hB hD
  have hst : St w [⟨r, kb, .slice none 0 0, zeros 64⟩] w2 ∧ FR w w2 [] (.slice none 0 0) (.slice none 0 0) := ⟨hS, by simp, by simp, by simp, World.ownsRow_nil _ _ _ _, World.ownsRow_nil _ _ _ _⟩
  clear hS
  go_wp2_with fail
  go_loopw [12, 13, 14] (fun v12 v13 vi wr => ∃ l : List Item, FR w wr l v12 v13 ∧ St w [⟨r, kb, .slice none 0 0, zeros 64⟩] wr ∧ vi = .int .i64 (l.length : Int) ∧ l.length ≤ n0 ∧ l.length ≤ 8) (fun _ _ vi _ => 8 - (intOf vi).toNat)
  case atStart => exact ⟨[], hst.2, hst.1, rfl, by simp, by simp⟩
  case round =>
    obtain ⟨l, hJ, hS, rfl, hl0, hl8⟩ := hrel
    clear hst
    by_cases hlt : l.length < n0 ∧ l.length < 8
    · obtain ⟨hk0, hk8⟩ := hlt
      obtain ⟨b, off, s, hb0, hbl, hsz, hcell⟩ := HA.out l.length hk0
      unfold maxLen at hsz
      subst hb0
      have cs : wr.cell? ⟨b, off + l.length, none⟩ = some (.string s) := by rw [hS.2.cell (p := ⟨b, off + l.length, none⟩) hbl]; exact hcell
      clear hcell
      have d0 : (0 : Int) ≤ (l.length : Int) := by omega
      have d1 : (l.length : Int) < (n0 : Int) := by omega
      have d2 : (l.length : Int) < 8 := by omega
      have hT := total_le3 hJ.len hJ.closed
      obtain ⟨k, hk⟩ : ∃ k, k = l.length := ⟨_, rfl⟩
      rw [← hk] at cs d0 d1 d2 hT hk0 hk8 ⊢
      have HK := Lib.hid hk
      have HJ := Lib.hid hJ
      have HS := Lib.hid hS
      clear hk hJ hS hl0 hl8
      obtain ⟨p12, c12, hv12⟩ := row_slice HJ.out.r12
      subst hv12
      have hone : ∃ tx : ByteArray, tx.size ≤ 150 ∧ tx = if 150 < s.size then s.extract 0 150 else s := by
        refine ⟨_, ?_, rfl⟩
        split
        · rw [ByteArray.size_extract]; omega
        · omega
      obtain ⟨tx, htx, hte⟩ := hone
      have HTE := Lib.hid hte; clear hte
      by_cases hm : 150 < s.size
      all_goals
        first
          | (have m1 : (150 : Int) < (s.size : Int) := by omega
             have m2 : (150 : Int) ≤ (s.size : Int) := by omega
             go_wp2_with fail
             go_quiet (fail)
             rw [show s.extract 0 150 = tx from by rw [HTE.out, if_pos hm]]
             clear m1 m2)
          | (have m3 : decide ((150 : Int) < (s.size : Int)) = false := decide_eq_false (by omega)
             have m4 : (s.size : Int) ≤ 150 := by omega
             have m5 : (if (150 : Int) < (s.size : Int) then (150 : Int) else (s.size : Int)) = (s.size : Int) := if_neg (by omega)
             have m6 : (0 : Int) ≤ (s.size : Int) := by omega
             go_wp2_with fail
             go_quiet (fail)
             obtain rfl : tx = s := by rw [HTE.out, if_neg hm]
             clear m3 m4 m5 m6)
        clear cs HTE hm
        have hb1 : Below wr.heap.size wr (wr.drewN nq) := below_drewN (Below.refl _ _) nq
        have hJ := HJ.out.more hb1
        have hS := HS.out.below hb1
        generalize wr.drewN nq = W1 at hJ hS ⊢
        clear HJ HS hb1
        obtain ⟨n, hn⟩ : ∃ n, n = Frame.need tx.size := ⟨_, rfl⟩
        have q1 : 1 ≤ n := by subst hn; unfold Frame.need; omega
        have q2 : n ≤ 3 := by subst hn; unfold Frame.need; split <;> omega
        have q3 : tx.size ≤ 53 * n := by subst hn; unfold Frame.need; split <;> omega
        have q4 : 53 * (n - 1) ≤ tx.size := by subst hn; unfold Frame.need; split <;> omega
        have hcut := fun w => cut_good 2 (total l) tx n hn (by decide) (by omega) w
        have HCUT : Hid (∀ w, Calls Try.prog 7 #[.int .i64 2, .int .i64 (total l : Int), .string tx] w fun x w' => ∃ v, x = .returned (.tuple #[v, .int .i64 0]) ∧ w'.ownsRow w.heap.size 34 4 v n (Frame.parts 2 (total l) n tx n) ∧ Below w.heap.size w w') := Lib.hid hcut
        clear hcut hn
        have HJ := Lib.hid hJ
        clear hJ
        go_wp2_with fail
        refine (HCUT.out _).mono ?_
        rintro x w2 ⟨vc, rfl, hrc, hB2⟩
        obtain ⟨g, cap, rfl, _, _⟩ := hrc.form (by omega)
        have hJ2 := HJ.out.more hB2
        replace hS := hS.below hB2
        clear HJ hB2
        have HRC := Lib.hid hrc
        clear hrc
        have hr12 := hJ2.r12
        have hr13 := hJ2.r13
        have hg := hJ2.good
        have hl3 := hJ2.len
        have hcl := hJ2.closed
        rw [← HK.out] at hr13
        have HG := Lib.hid hg
        have HL3 := Lib.hid hl3
        have HCL := Lib.hid hcl
        have hzw := hS.hz
        have HS := Lib.hid hS
        clear hg hl3 hcl hJ2 HCUT HA hS
        go_wp2_with (first
          | (at_builtin; refine wpList_append_lies _ rfl _ _ _ rfl w.heap.size 34 i0 _ 4 40 Try.underlying28 hi hz0 hz1 hz2 rfl (by omega) _ (total l) _ rfl hr12 ⟨g, 0, none⟩ n cap (Frame.parts 2 (total l) n tx n) rfl HRC.out.1 (fun j u hu => HRC.out.cells (g := g) rfl j u hu) (parts_one _ _ _ _ _) (by omega) (by simp [maxLen]; omega) (by omega) (by omega) w2.heap.size rfl ?_; intro g8 cap8 w4 hown12 hgrow8 _ _; have hS4 := HS.out.grown hgrow8 (fun q hq => by obtain ⟨h1, cur, h2⟩ := owned_block hr12 hq; exact ⟨h1, cur, _, h2, by decide, by decide, by decide⟩); have hz4 := hS4.hz; have hs13 := owned_apart (by decide) hr13 hr12 hgrow8; clear hr12 hr13 hgrow8)
          | (at_builtin; refine wpList_append_lies _ rfl _ _ _ rfl w.heap.size 9 is _ 1 16 Try.underlying22 his hs0 hs1 hs2 rfl (by omega) _ k _ rfl (hs13.alloc _) ⟨w4.heap.size, 0, none⟩ 1 1 [.string tx] rfl rfl (World.news_of_block (cs := #[.string tx]) (t := 9) (fr := (0, 0)) (World.alloc_heap_new w4 _)) (by simp [Value.oneCell']) (by omega) (by simp [maxLen]; omega) (by omega) (by simp; omega) (w4.heap.size + 1) (by simp) ?_; intro g9 cap9 w5 hown13 hgrow9 _ _; have hS5 := (hS4.alloc (.cells #[.string tx] 9)).grown hgrow9 (fun q hq => by obtain ⟨h1, cur, h2⟩ := owned_block (hs13.alloc (.cells #[.string tx] 9)) hq; exact ⟨h1, cur, _, h2, by decide, by decide, by decide⟩); have ht12 := owned_apart (by decide) (hown12.alloc _) (hs13.alloc _) hgrow9; clear hs13 hown12 hgrow9 hS4 hz4))
        exact ⟨⟨l ++ [⟨2, tx, false, total l, n⟩], FR.snoc HG.out HL3.out HCL.out ⟨q1, q4, q3, by show total l + n ≤ 64; omega, by show 1 ≤ 2 ∧ 2 ≤ 16777215; omega⟩ q2 rfl ht12 (by rw [← HK.out]; exact hown13), hS5, by rw [List.length_append, ← HK.out]; go_num, by rw [List.length_append, ← HK.out]; simp; omega, by rw [List.length_append, ← HK.out]; simp; omega⟩, by simp [intOf]; omega⟩
    · have hT := total_le3 hJ.len hJ.closed
      have hd : decide (l.length < n0) = false ∨ (decide (l.length < n0) = true ∧ decide ((l.length : Int) < 8) = false) := by
        by_cases h : l.length < n0
        · exact .inr ⟨decide_eq_true h, decide_eq_false (by omega)⟩
        · exact .inl (decide_eq_false h)
      have hr12 := hJ.r12
      have hr13 := hJ.r13
      have hjc : ∀ k, ∃ m M, joinGo ((l.flatMap Item.frames).take k) 0 [] [] false 0 = ((l.map Item.s).take M, m) ∧ m ≤ k ∧ M ≤ l.length := fun k => by
        obtain ⟨m, h1, _, h2, _⟩ := join_cut l hJ.good k 0 [] 0 (Nat.le_refl _)
        rw [Nat.zero_add] at h1 h2
        exact ⟨m, _, by simpa using h1, h2, many_le l 0 k⟩
      have hfine : ∀ f ∈ l.flatMap Item.frames, f.fine := fun f hf => by
        obtain ⟨x, hx, hfx⟩ := List.mem_flatMap.1 hf
        exact frames_fine x (hJ.good x hx) (hJ.closed x hx) f hfx
      have hlen : (l.flatMap Item.frames).length = total l := total_frames l
      have hwl : (l.map Item.s).length = l.length := by simp
      generalize l.flatMap Item.frames = Fs at hr12 hjc hfine hlen
      generalize l.map Item.s = ws at hr13 hjc hwl
      generalize total l = N at hr12 hlen hT
      obtain ⟨L, hL⟩ : ∃ L, L = l.length := ⟨_, rfl⟩
      rw [← hL] at hr13 hjc hwl hd hT hl0 hl8 ⊢
      have hN : N ≤ 24 := by omega
      obtain ⟨p12, c12, rfl⟩ := row_slice hr12
      obtain ⟨p13, c13, rfl⟩ := row_slice hr13
      have HJC := Lib.hid hjc
      have HFI := Lib.hid hfine
      have HLE := Lib.hid hlen
      have HWL := Lib.hid hwl
      clear hjc hfine hlen hwl hJ hlt hL HA hT
      have hst : ∃ q P, St w [⟨r, kb, q, ⟨(zeros 64).kept, P, false, 0⟩⟩] wr ∧ Put Fs P 0 ∧ wr.ownsRow w.heap.size 34 4 (.slice p12 N c12) N (Fs.flatMap Fr.cells) ∧ wr.ownsRow w.heap.size 9 1 (.slice p13 L c13) L (ws.map .string) := ⟨_, [], hS, Put.zero Fs, hr12, hr13⟩
      clear hS hr12 hr13
      rcases hd with hd | ⟨hd', hd⟩
      all_goals
        go_wp2_with fail
        go_loopw [18] (fun iv wr => ∃ i : Nat, i ≤ N ∧ iv = .int .i64 (i : Int) ∧ ∃ q P, St w [⟨r, kb, q, ⟨(zeros 64).kept, P, false, 0⟩⟩] wr ∧ Put Fs P i ∧ wr.ownsRow w.heap.size 34 4 (.slice p12 N c12) N (Fs.flatMap Fr.cells) ∧ wr.ownsRow w.heap.size 9 1 (.slice p13 L c13) L (ws.map .string)) (fun iv _ => N - (intOf iv).toNat)
        case atStart => exact ⟨0, Nat.zero_le _, rfl, hst⟩
        case round =>
          obtain ⟨i, hi2, rfl, q, P, hS, hP, hr12, hr13⟩ := hrel
          clear hst hd
          by_cases h1 : i < N
          · have d1 : decide (i < N) = true := decide_eq_true h1
            obtain ⟨g, cap, hg, _, _⟩ := hr12.form (by omega)
            simp at hg
            obtain ⟨rfl, rfl⟩ := hg
            have hiF : i < Fs.length := by rw [HLE.out]; exact h1
            have hcell : ∀ j u, Fs[i].cells[j]? = some u → wr.cell? ⟨g, i * 4 + j, none⟩ = some u := fun j u hu => owned_cell hr12 (i * 4 + j) u (by rw [flat_at Fs i hiF j (cells_lt hu)]; exact hu)
            have hff := HFI.out Fs[i] (List.getElem_mem _)
            have hsu := hP.succ (List.getElem?_eq_getElem hiF)
            generalize Fs[i] = f at hcell hff hsu
            have c1 : wr.cell? ⟨g, i * 4, none⟩ = some (.int .i64 f.e) := hcell 0 _ rfl
            have c2 := hcell 1 _ rfl
            have c3 := hcell 2 _ rfl
            have c4 := hcell 3 _ rfl
            clear hcell
            have e0 : (0 : Int) ≤ (i : Int) := by omega
            have e1 : (i : Int) < (N : Int) := by omega
            have hla := fun w => lay_fine hff w
            have hpl := hP.1
            have hsl := fine_len hff
            generalize secOf f = sec at hla hsu hsl
            have HLA := Lib.hid hla
            have HSU := Lib.hid hsu
            have HSL := Lib.hid hsl
            have hPl : P.length ≤ 100000 := by omega
            clear hla hsu hsl hpl
            go_wp2_with fail
            refine (HLA.out _).mono ?_
            rintro x w3 ⟨rfl, hb⟩
            replace hS := hS.below hb
            replace hr12 := owned_below hr12 hb
            replace hr13 := owned_below hr13 hb
            clear hb c1 c2 c3 c4
            go_wp2_with fail
            refine (write1 hS.d1 hS.hz i (by rw [zeros64_len]; omega) sec HSL.out hPl).mono ?_
            rintro x w4 ⟨rfl, pv2, hd⟩
            replace hr12 := hd.rowE hS.d1 hr12 (by decide)
            replace hr13 := hd.rowE hS.d1 hr13 (by decide)
            replace hS := hS.do1 hd
            clear hd
            go_wp2_with fail
            exact ⟨⟨i + 1, by omega, by go_num, _, _, hS, HSU.out, hr12, hr13⟩, by simp [intOf]; omega⟩
          · obtain rfl : i = N := by omega
            have d1 : decide (i < i) = false := decide_eq_false h1
            have hpl := hP.1
            have hPl : P.length ≤ 100000 := by omega
            have HP := Lib.hid hP
            clear hP hpl
            go_wp2_with fail
            refine (sync1 hS.d1 hS.hz hPl).mono ?_
            rintro x w3 ⟨rfl, hd⟩
            replace hr12 := hd.rowE hS.d1 hr12 (by decide)
            replace hr13 := hd.rowE hS.d1 hr13 (by decide)
            replace hS := hS.do1 hd
            clear hd
            have hK1l : (layW (zeros 64).kept P).length = 64 := by rw [layW_length]; exact zeros64_len
            have hK1 : ∀ (j : Nat) (f : Fr), j < i → Fs[j]? = some f → (layW (zeros 64).kept P)[j]? = some (secOf f) := fun j f hj hf => by
              rw [layW_get, List.getElem?_eq_getElem (by rw [zeros64_len]; omega)]
              show some (lastOf _ P j) = _
              rw [HP.out.2 j f hj hf]
            generalize layW (zeros 64).kept P = K1 at hS hK1l hK1
            have HK1L := Lib.hid hK1l
            have HK1 := Lib.hid hK1
            clear hK1l hK1 HP hPl d1
            by_cases hN0 : i = 0
            · subst hN0
              go_wp2_with fail
              go_ret
              exact ⟨rfl, hS.2⟩
            · have d2 : ((i : Int) == 0) = false := by rw [beq_eq_false_iff_ne]; omega
              obtain ⟨k, hk⟩ : ∃ k, k = wh % i := ⟨_, rfl⟩
              have hki : k < i := by rw [hk]; exact Nat.mod_lt _ (by omega)
              have g1 : (wh : Int) % (i : Int) = (k : Int) := by rw [hk]; omega
              obtain ⟨p, hp⟩ : ∃ p, p = pl % 64 := ⟨_, rfl⟩
              have hp64 : p < 64 := by omega
              have g2 : (pl : Int) % 64 = (p : Int) := by omega
              obtain ⟨m, hm⟩ : ∃ m, m = mk % 255 := ⟨_, rfl⟩
              have hm255 : m < 255 := by omega
              have g3 : (mk : Int) % 255 = (m : Int) := by omega
              have g4 : (0 : Int) < (i : Int) := by omega
              have hkF : k < Fs.length := by rw [HLE.out]; exact hki
              have hk1 := HK1.out k Fs[k] hki (List.getElem?_eq_getElem hkF)
              have hff := HFI.out Fs[k] (List.getElem_mem _)
              have hFk : Fs[k]? = some Fs[k] := List.getElem?_eq_getElem hkF
              generalize Fs[k] = fk at hk1 hff hFk
              have hsl := fine_len hff
              have hkK : k < K1.length := by rw [HK1L.out]; omega
              have hps : p < (secOf fk).length := by rw [hsl]; exact hp64
              have hKk : K1[k] = secOf fk := by
                rw [List.getElem?_eq_getElem hkK] at hk1
                exact Option.some.inj hk1
              have hro := rot_ok hS.d1 k hkK p (1 + m) hp64 (by omega) (secOf fk)[p] (by show K1[k][p]? = _; rw [hKk]; exact List.getElem?_eq_getElem hps)
              dsimp only at hro
              rw [hKk, show ((1 + m : Nat) : Int) = 1 + (m : Int) from by omega] at hro
              have hne : (secOf fk)[p]? ≠ some ((secOf fk)[p] ^^^ UInt8.ofNat (1 + m)) := by
                rw [List.getElem?_eq_getElem hps]
                intro h
                have h := Option.some.inj h
                have h2 := congrArg ((secOf fk)[p] ^^^ ·) h
                simp only [← UInt8.xor_assoc, UInt8.xor_self, UInt8.zero_xor] at h2
                have := congrArg UInt8.toNat h2
                simp at this
                omega
              have hrt := fun w => read_turned hff p hp64 _ hne w
              generalize (secOf fk).set p ((secOf fk)[p] ^^^ UInt8.ofNat (1 + m)) = T at hro hrt
              have HRO := Lib.hid hro
              have HRT := Lib.hid hrt
              clear hro hrt hne hKk hps hsl hff hFk hk1 hkF hk hp hm
              go_wp2_with fail
              rw [g1]
              clear g1 g2 g3 g4 d2
              refine HRO.out.mono ?_
              rintro x w4 ⟨rfl, hd⟩
              replace hr12 := hd.rowE hS.d1 hr12 (by decide)
              replace hr13 := hd.rowE hS.d1 hr13 (by decide)
              replace hS := hS.do1 hd
              clear hd HRO
              have hK2l : (K1.set k T).length = 64 := by rw [List.length_set]; exact HK1L.out
              have hK2k : (K1.set k T)[k]? = some T := List.getElem?_set_self hkK
              have hK2 : ∀ (j : Nat) (f : Fr), j < i → j ≠ k → Fs[j]? = some f → (K1.set k T)[j]? = some (secOf f) := fun j f hj hjk hf => by
                rw [List.getElem?_set_ne (by omega)]
                exact HK1.out j f hj hf
              generalize K1.set k T = K2 at hS hK2l hK2k hK2
              have HK2L := Lib.hid hK2l
              have HK2K := Lib.hid hK2k
              have HK2 := Lib.hid hK2
              clear hK2l hK2k hK2 HK1 HK1L hkK
              have hst : ∃ q, St w [⟨r, kb, q, ⟨K2, [], false, 0⟩⟩] w4 ∧ w4.ownsRow w.heap.size 34 4 (.slice p12 i c12) i (Fs.flatMap Fr.cells) ∧ w4.ownsRow w.heap.size 9 1 (.slice p13 L c13) L (ws.map .string) := ⟨_, hS, hr12, hr13⟩
              clear hS hr12 hr13
              go_wp2_with fail
              go_loopw [24] (fun iv wr => ∃ j : Nat, j ≤ i ∧ iv = .int .i64 (j : Int) ∧ ∃ q, St w [⟨r, kb, q, ⟨K2, [], false, 0⟩⟩] wr ∧ wr.ownsRow w.heap.size 34 4 (.slice p12 i c12) i (Fs.flatMap Fr.cells) ∧ wr.ownsRow w.heap.size 9 1 (.slice p13 L c13) L (ws.map .string)) (fun iv _ => i - (intOf iv).toNat)
              case atStart => exact ⟨0, Nat.zero_le _, rfl, hst⟩
              case round =>
                obtain ⟨j, hj, rfl, q, hS, hr12, hr13⟩ := hrel
                clear hst
                by_cases h2 : j < i
                · have d3 : decide (j < i) = true := decide_eq_true h2
                  have hjF : j < Fs.length := by rw [HLE.out]; exact h2
                  have hjK : j < K2.length := by rw [HK2L.out]; omega
                  have hr := read1 hS.d1 j hjK (by simp)
                  rw [show (layW K2 [])[j]'(by rw [layW_length]; exact hjK) = K2[j] from rfl] at hr
                  by_cases hjk : j = k
                  · subst hjk
                    have hTk : K2[j] = T := by
                      have := HK2K.out
                      rw [List.getElem?_eq_getElem hjK] at this
                      exact Option.some.inj this
                    rw [hTk] at hr
                    have HR := Lib.hid hr
                    have g5 : ((j : Int) != (j : Int)) = false := by simp
                    clear hr hTk
                    go_wp2_with fail
                    refine HR.out.mono ?_
                    rintro x w5 ⟨rfl, hb⟩
                    replace hS := hS.below hb
                    replace hr12 := owned_below hr12 hb
                    replace hr13 := owned_below hr13 hb
                    clear hb HR
                    go_wp2_with fail
                    refine (HRT.out _).mono ?_
                    rintro x w6 ⟨rfl, hb⟩
                    replace hS := (hS.below hb).alloc (.cells #[.int .i64 0, .int .i64 0, .int .i64 0, .string ⟨#[]⟩] 34)
                    replace hr12 := (owned_below hr12 hb).alloc (.cells #[.int .i64 0, .int .i64 0, .int .i64 0, .string ⟨#[]⟩] 34)
                    replace hr13 := (owned_below hr13 hb).alloc (.cells #[.int .i64 0, .int .i64 0, .int .i64 0, .string ⟨#[]⟩] 34)
                    clear hb
                    go_wp2_with fail
                    go_quiet (fail)
                    go_wp2_with fail
                    have hb : Below (w6.alloc (.cells #[.int .i64 0, .int .i64 0, .int .i64 0, .string ⟨#[]⟩] 34)).heap.size (w6.alloc (.cells #[.int .i64 0, .int .i64 0, .int .i64 0, .string ⟨#[]⟩] 34)) ((w6.alloc (.cells #[.int .i64 0, .int .i64 0, .int .i64 0, .string ⟨#[]⟩] 34)).drewN nq) := below_drewN (Below.refl _ _) nq
                    exact ⟨⟨j + 1, by omega, by go_num, _, hS.below hb, owned_below hr12 hb, owned_below hr13 hb⟩, by simp [intOf]; omega⟩
                  · have hff := HFI.out Fs[j] (List.getElem_mem _)
                    have hkj := HK2.out j Fs[j] h2 hjk (List.getElem?_eq_getElem hjF)
                    have hTk : K2[j] = secOf Fs[j] := by
                      rw [List.getElem?_eq_getElem hjK] at hkj
                      exact Option.some.inj hkj
                    rw [hTk] at hr
                    have hcell : ∀ (W : World), W.ownsRow w.heap.size 34 4 (.slice p12 i c12) i (Fs.flatMap Fr.cells) → ∃ g, p12 = some ⟨g, 0, none⟩ ∧ ∀ a u, Fs[j].cells[a]? = some u → W.cell? ⟨g, j * 4 + a, none⟩ = some u := fun W hW => by
                      obtain ⟨g, cap, hg, _, _⟩ := hW.form (by omega)
                      simp at hg
                      obtain ⟨rfl, rfl⟩ := hg
                      exact ⟨g, rfl, fun a u hu => owned_cell hW (j * 4 + a) u (by rw [flat_at Fs j hjF a (cells_lt hu)]; exact hu)⟩
                    generalize Fs[j] = f at hff hr hcell
                    have hrf := fun w => read_fine hff w
                    generalize secOf f = sec at hr hrf
                    have HR := Lib.hid hr
                    have HRF := Lib.hid hrf
                    have HC := Lib.hid hcell
                    have g5 : ((j : Int) != (k : Int)) = true := by simp; omega
                    clear hr hTk hkj hrf hff hcell
                    go_wp2_with fail
                    refine HR.out.mono ?_
                    rintro x w5 ⟨rfl, hb⟩
                    replace hS := hS.below hb
                    replace hr12 := owned_below hr12 hb
                    replace hr13 := owned_below hr13 hb
                    clear hb HR
                    go_wp2_with fail
                    refine (HRF.out _).mono ?_
                    rintro x w6 ⟨rfl, hb⟩
                    replace hS := (hS.below hb).alloc (.cells #[.int .i64 f.e, .int .i64 f.a, .int .i64 f.k, .string f.s] 34)
                    replace hr12 := (owned_below hr12 hb).alloc (.cells #[.int .i64 f.e, .int .i64 f.a, .int .i64 f.k, .string f.s] 34)
                    replace hr13 := (owned_below hr13 hb).alloc (.cells #[.int .i64 f.e, .int .i64 f.a, .int .i64 f.k, .string f.s] 34)
                    clear hb
                    have hx := World.alloc_heap_new w6 (.cells #[.int .i64 f.e, .int .i64 f.a, .int .i64 f.k, .string f.s] 34)
                    go_wp2_with fail
                    obtain ⟨g, rfl, hcg⟩ := HC.out _ hr12
                    generalize w6.heap.size = xb at hx ⊢
                    generalize w6.alloc (.cells #[.int .i64 f.e, .int .i64 f.a, .int .i64 f.k, .string f.s] 34) = w7 at hS hr12 hr13 hx hcg ⊢
                    have c1 : w7.cell? ⟨g, j * 4, none⟩ = some (.int .i64 f.e) := hcg 0 _ rfl
                    have c2 := hcg 1 _ rfl
                    have c3 := hcg 2 _ rfl
                    have c4 := hcg 3 _ rfl
                    have x1 := cell_of_row _ _ 0 _ _ (0, 0) hx
                    have x2 := cell_of_row _ _ 1 _ _ (0, 0) hx
                    have x3 := cell_of_row _ _ 2 _ _ (0, 0) hx
                    have x4 := cell_of_row _ _ 3 _ _ (0, 0) hx
                    have e0 : (0 : Int) ≤ (j : Int) := by omega
                    have e1 : (j : Int) < (i : Int) := by omega
                    clear hcg hx
                    go_quiet (fail)
                    go_wp2_with fail
                    have hb : Below w7.heap.size w7 (w7.drewN nq) := below_drewN (Below.refl _ _) nq
                    exact ⟨⟨j + 1, by omega, by go_num, _, hS.below hb, owned_below hr12 hb, owned_below hr13 hb⟩, by simp [intOf]; omega⟩
                · obtain rfl : j = i := by omega
                  have d3 : decide (j < j) = false := decide_eq_false h2
                  have L12 := (Lies.own hr12).cut (Nat.le_of_lt hki)
                  rw [cells_take] at L12
                  obtain ⟨m2, M, hjo, hm2, hML⟩ := HJC.out k
                  have HJO := Lib.hid hjo
                  have L13 : Lies wr (.slice p13 L c13) L 1 (ws.map .string) := Lies.own hr13
                  obtain ⟨hcap, hcm⟩ : j ≤ c12 ∧ c12 ≤ maxLen := by
                    obtain ⟨p', c', hv, h1, h2⟩ := row_slice' hr12
                    simp at hv
                    obtain ⟨_, rfl⟩ := hv
                    exact ⟨h1, h2⟩
                  obtain ⟨hcap3, hcm3⟩ : L ≤ c13 ∧ c13 ≤ maxLen := by
                    obtain ⟨p', c', hv, h1, h2⟩ := row_slice' hr13
                    simp at hv
                    obtain ⟨_, rfl⟩ := hv
                    exact ⟨h1, h2⟩
                  unfold maxLen at hcm hcm3
                  have HK2' := HLE.out
                  clear hjo hr12 hr13 HFI HK2 HK2K HK2L HRT
                  go_wp2_with fail
                  refine (join_lies _ (by rw [List.length_take]; omega) _ L12).mono ?_
                  rintro x w8 ⟨vb, rfl, hrb, hb⟩
                  rw [HJO.out] at hrb ⊢
                  replace hS := hS.below hb
                  replace L13 := L13.below hb
                  clear L12 hb
                  have hlb : (ws.take M).length = M := by rw [List.length_take, HWL.out]; omega
                  obtain ⟨pb, cb, rfl, _, _⟩ := row_slice' hrb
                  have LB : Lies w8 (.slice pb (ws.take M).length cb) (ws.take M).length 1 ((ws.take M).map .string) := Lies.own hrb
                  rw [hlb] at LB ⊢
                  have LC := L13.cut hML
                  rw [Nat.mul_one, ← List.map_take] at LC
                  have hmin : (if (L : Int) < (M : Int) then (L : Int) else (M : Int)) = (M : Int) := if_neg (by omega)
                  have d5 : decide (m2 ≤ k) = true := decide_eq_true hm2
                  have d6 : decide (M ≤ L) = true := decide_eq_true hML
                  have HWL2 := HWL.out
                  have hml : (ws.take M).length ≤ 9223372036854775807 := by rw [List.length_take]; omega
                  clear hrb hlb L13 HWL2
                  have HML := Lib.hid hml
                  have HLB := Lib.hid LB
                  have HLC := Lib.hid LC
                  clear hml LB LC
                  go_wp2_with fail
                  refine (sameTexts_any (ws.take M) (ws.take M) _ HML.out HLB.out HLC.out).mono ?_
                  rintro x w9 ⟨rfl, hb⟩
                  rw [show decide (ws.take M = ws.take M) = true from decide_eq_true rfl]
                  replace hS := hS.below hb
                  clear hb
                  go_wp2_with fail
                  go_ret
                  exact ⟨rfl, hS.2⟩
end Go.Proofs.Ytnoegbogalfdgaa

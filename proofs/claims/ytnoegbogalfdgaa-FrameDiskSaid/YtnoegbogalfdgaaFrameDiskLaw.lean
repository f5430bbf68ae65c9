/- The walk of FrameDisk. -/
import Derived.Deep.DeepCutAuto
import Derived.Test.YtnoegbogalfdgaaFrameDiskMath
set_option linter.unusedSimpArgs false
set_option linter.unusedVariables false
namespace Go.Proofs.Ytnoegbogalfdgaa
open Go Go.RowKit Wire

theorem infoInt : (Try.prog.info? 3).map (fun i => (i.zero, i.size, i.bytes)) = some (some (.int .i64 0), 1, 8) := by kernel_rfl
/-- how many sectors are synced, behind so many batches -/
def sureAt (sure : Nat) (l : List Item) (S : Nat) : Prop := (sure < l.length → S = total (l.take sure)) ∧ (l.length ≤ sure → S = 0)
/-- what the first loop keeps -/
structure JD (w W : World) (l : List Item) (r kb : Nat) (q : Value) (K : List (List UInt8)) (P : List (Nat × List UInt8)) (S : Nat) (v10 : Value) : Prop where
  good : ∀ x ∈ l, x.good
  len : ∀ x ∈ l, x.n ≤ 3
  closed : ∀ x ∈ l, x.closed = false
  row : W.ownsRow w.heap.size 9 1 v10 l.length ((l.map Item.s).map .string)
  st : St w [⟨r, kb, q, ⟨K, P, false, 0⟩⟩] W
  sy : Sy (l.flatMap Item.frames) K P S
  pos : PosOk (l.flatMap Item.frames)
theorem JD.more {w W W' : World} {l : List Item} {r kb : Nat} {q : Value} {K : List (List UInt8)} {P : List (Nat × List UInt8)} {S : Nat} {v10 : Value} (h : JD w W l r kb q K P S v10) (hb : Below W.heap.size W W') : JD w W' l r kb q K P S v10 :=
  ⟨h.good, h.len, h.closed, owned_below h.row hb, h.st.below hb, h.sy, h.pos⟩
theorem sec_len {Fs : List Fr} {K : List (List UInt8)} {P : List (Nat × List UInt8)} {S : Nat} (h : Sy Fs K P S) (hl : Fs.length ≤ 24) : P.length ≤ 100000 := by have := h.plen; omega

theorem sureAt.snoc {sure : Nat} {l : List Item} {S : Nat} (h1 : sure ≤ l.length → S = total (l.take sure)) (h2 : l.length < sure → S = 0) (x : Item) : sureAt sure (l ++ [x]) S := by
  refine ⟨fun h => ?_, fun h => ?_⟩
  · rw [List.length_append, List.length_singleton] at h
    rw [List.take_append_of_le_length (by omega)]
    exact h1 (by omega)
  · rw [List.length_append, List.length_singleton] at h
    exact h2 (by omega)
theorem grown_setCell {W : World} {b i : Nat} (v : Value) : W.grownBy (W.setCell ⟨b, i, none⟩ v) (some b) :=
  ⟨rfl, rfl, rfl, by simp [World.setCell], fun k _ hk => Below.heap_setCell W ⟨b, i, none⟩ v k (fun e => hk (by rw [e]))⟩
/-- a row of one type is none of another type's blocks -/
theorem owned_set {W : World} {base n size b i : Nat} {e t : TypeId} {v u : Value} {xs : List Value} {c : Array Value} (h : W.ownsRow base e size v n xs) (hb : W.heap[b]? = some (.cells c t (0, 0))) (ht : t ≠ e) : (W.setCell ⟨b, i, none⟩ u).ownsRow base e size v n xs :=
  h.kept (grown_setCell u) (by
    by_cases hv : v.ownBlock = none
    · exact .inl hv
    · refine .inr (fun hq => ?_)
      obtain ⟨_, cur, hc⟩ := owned_block h hq
      have := congrArg (fun o => match o with | some (Obj.cells _ t _) => t | _ => 0) (hb.symm.trans hc)
      exact ht (by simpa using this))
/-- a frame of a batch at its place -/
theorem frames_at (x : Item) (hc : x.closed = false) (i : Nat) (hi : i < x.n) : x.frames[i]? = some (frOf x i) := by
  unfold Item.frames
  rw [hc]
  simp [hi]

set_option maxRecDepth 100000 in
set_option maxHeartbeats 8000000 in
theorem frameDisk_walk (b0 : Option Addr) (n0 c0 : Nat) (xs0 : List ByteArray) (mn : Int) (b2 : Option Addr) (n2 c2 : Nat) (ks : List Int) (w : World) (hn0 : xs0.length = n0) (hc0 : n0 ≤ c0) (hm0 : c0 ≤ maxLen) (hL0 : Lies w (.slice b0 n0 c0) n0 1 (xs0.map .string)) (hg0 : ∀ s ∈ xs0, s.size ≤ maxLen)
    (hmn : 0 ≤ mn ∧ mn ≤ 255) (hn2 : ks.length = n2) (hc2 : n2 ≤ c2) (hm2 : c2 ≤ maxLen) (hk : Lies w (.slice b2 n2 c2) n2 1 (ks.map (Value.int .i64))) (hkg : ∀ x ∈ ks, -9223372036854775808 ≤ x ∧ x ≤ 9223372036854775807) :
    Calls Try.prog 4 #[.slice b0 n0 c0, .int .u8 mn, .slice b2 n2 c2] w fun x w' => x = .returned (.bool true) ∧ Below w.heap.size w w' := by
  unfold maxLen at hm0 hm2
  obtain ⟨mn, rfl⟩ : ∃ K : Nat, mn = (K : Int) := ⟨mn.toNat, by omega⟩
  have hA : ∀ k, k < n0 → ∃ b off s, b0 = some ⟨b, off, none⟩ ∧ b < w.heap.size ∧ s.size ≤ maxLen ∧ w.cell? ⟨b, off + k, none⟩ = some (.string s) := fun k hk => by
    rcases hL0.2 with ⟨h0, _⟩ | ⟨b, off, c, hv, hlt, hc⟩
    · omega
    · simp at hv
      refine ⟨b, off, xs0[k], hv.1, hlt, hg0 _ (List.getElem_mem _), hc k _ ?_⟩
      rw [List.getElem?_map, List.getElem?_eq_getElem (by omega)]; rfl
  have hKC : ∀ (X : World), Below w.heap.size w X → ∀ j (hj : j < ks.length), ∃ b off, b2 = some ⟨b, off, none⟩ ∧ X.cell? ⟨b, off + j, none⟩ = some (.int .i64 ks[j]) := fun X hX j hj => by
    rcases (hk.below hX).2 with ⟨h0, _⟩ | ⟨b, off, c, hv, _, hc⟩
    · omega
    · simp at hv
      exact ⟨b, off, hv.1, hc j _ (by rw [List.getElem?_map, List.getElem?_eq_getElem hj]; rfl)⟩
  have HA := Lib.hid hA
  have HKC := Lib.hid hKC
  have HKG := Lib.hid hkg
  subst hn2
  clear hA hL0 hg0 hn0 xs0 hKC hk hkg
  obtain ⟨i0, hi, hz0, hz1, hz2⟩ := info_parts infoFrame
  obtain ⟨is, his, hs0, hs1, hs2⟩ := info_parts infoStr
  obtain ⟨ii, hii, hi0, hi1, hi2⟩ := info_parts infoInt
  obtain ⟨n8, hn8⟩ : ∃ n8 : Nat, n8 = min n0 8 := ⟨_, rfl⟩
  have hmin : (if (8 : Int) < (n0 : Int) then (8 : Int) else (n0 : Int)) = (n8 : Int) := by split <;> omega
  have h88 : n8 ≤ 8 ∧ n8 ≤ n0 ∧ (n0 < 8 → n8 = n0) ∧ (8 ≤ n0 → n8 = 8) := by omega
  clear hn8
  obtain ⟨sure, hsure⟩ : ∃ s, s = mn % (n8 + 1) := ⟨_, rfl⟩
  have hs8 : sure ≤ n8 := by have := Nat.mod_lt mn (show 0 < n8 + 1 by omega); omega
  have hse : (mn : Int) % ((n8 : Int) + 1) = (sure : Int) := by rw [hsure]; simp
  have hs00 : n0 = 0 → sure = 0 := fun h => by omega
  have h0 := St.nil w
  clear hsure
  go_enter Try.func4, Try.ntmps4
  go_wp2_with fail
  refine (examples_any _).mono ?_
  rintro x w1 ⟨rfl, hB⟩
  have hS := h0.below hB
  clear h0 hB
  go_wp2_with fail
  refine (new_ok 64 (by decide) (by decide) w1.heap.size w1 (Nat.le_refl _)).mono ?_
  rintro x w2 ⟨r, kb, rfl, hD, hB, _, _⟩
  replace hS : St w [⟨r, kb, .slice none 0 0, zeros 64⟩] w2 := hS.new hB hD
  clear hB hD
  have hst : JD w w2 [] r kb (.slice none 0 0) (zeros 64).kept [] 0 (.slice none 0 0) :=
    ⟨by simp, by simp, by simp, World.ownsRow_nil _ _ _ _, hS, Sy.start, fun j f h => by simp at h⟩
  clear hS
  have hz : 0 < n0 ∨ n0 = 0 := by omega
  have hgo : decide (0 < n0) = true ∨ (n0 = 0 ∧ sure = 0) := by
    rcases hz with h | h
    · exact .inl (decide_eq_true h)
    · exact .inr ⟨h, hs00 h⟩
  clear hz hs00
  have g9 : (0 : Int) < (n8 : Int) + 1 := by omega
  go_upto_if 42 with (fail)
  go_cut [12, 42] from 43 to 49 (fun v12 v42 wx => v12 = .int .i64 (sure : Int) ∧ v42 = .bool (decide (0 < n0)) ∧ wx = w2)
  case first =>
    rcases hgo with hgo | ⟨rfl, rfl⟩
    · rw [hgo]
      go_wp2_with fail
      go_meet
      exact ⟨by rw [hse], by rw [hgo], rfl⟩
    · rw [show decide (0 < 0) = false from rfl]
      go_wp2_with fail
      go_meet
      exact ⟨rfl, rfl, rfl⟩
  case rest =>
    obtain ⟨rfl, rfl, hwx⟩ := hcut
    subst hwx
    clear hmin hse g9 hgo
    go_wp2_with fail
    have hst2 : ∃ q K P S, JD w wc [] r kb q K P S (.slice none 0 0) ∧ sureAt sure [] S := ⟨_, _, _, _, hst, fun h => by simp at h, fun _ => rfl⟩
    clear hst
    go_loopw [10, 11, 13] (fun v10 v11 vi wr => ∃ l : List Item, (∃ q K P S, JD w wr l r kb q K P S v10 ∧ sureAt sure l S) ∧ v11 = .int .i64 (total l : Int) ∧ vi = .int .i64 (l.length : Int) ∧ l.length ≤ n8) (fun _ _ vi _ => 8 - (intOf vi).toNat)
    case atStart => exact ⟨[], hst2, rfl, rfl, by simp⟩
    case round =>
      obtain ⟨l, ⟨q, K, P, S, hJ, hSu⟩, rfl, rfl, hl8⟩ := hrel
      clear hst2
      have hT := total_le3 hJ.len hJ.closed
      have hTF := total_frames l
      by_cases hlt : l.length < n8
      · have d1 : decide (l.length < n0) = true := decide_eq_true (by omega)
        have d2 : decide ((l.length : Int) < 8) = true := decide_eq_true (by omega)
        obtain ⟨b, off, s, hb0, hbl, hsz, hcell⟩ := HA.out l.length (by omega)
        unfold maxLen at hsz
        subst hb0
        have HC := Lib.hid (⟨hbl, hcell⟩ : b < w.heap.size ∧ w.cell? ⟨b, off + l.length, none⟩ = some (.string s))
        have HTF := Lib.hid hTF
        clear hcell hTF
        go_upto_if 62 with (fail)
        go_cut [62] from 63 to 64 (fun v62 wx => v62 = .bool ((l.length : Int) == (sure : Int)) ∧ ∃ q K P S, JD w wx l r kb q K P S u10 ∧ (sure ≤ l.length → S = total (l.take sure)) ∧ (l.length < sure → S = 0))
        case first =>
          by_cases hls : l.length = sure
          · have d3 : ((l.length : Int) == (sure : Int)) = true := by rw [beq_iff_eq]; omega
            have hP0 : P.length ≤ 100000 := sec_len hJ.sy (by rw [HTF.out]; omega)
            have HLS := Lib.hid hls
            clear hls
            go_wp2_with fail
            refine (sync1 hJ.st.d1 hJ.st.hz hP0).mono ?_
            rintro x w3 ⟨rfl, hd⟩
            go_wp2_with fail
            go_meet
            case rel =>
              refine ⟨by rw [d3], _, layW K P, [], total l, ⟨hJ.good, hJ.len, hJ.closed, hd.rowE hJ.st.d1 hJ.row (by decide), hJ.st.do1 hd, ?_, hJ.pos⟩, fun _ => ?_, fun h => by have := HLS.out; omega⟩
              · rw [← HTF.out]; exact hJ.sy.all (by rw [HTF.out]; omega)
              · rw [List.take_of_length_le (by have := HLS.out; omega)]
          · have d3 : ((l.length : Int) == (sure : Int)) = false := by rw [beq_eq_false_iff_ne]; omega
            go_wp2_with fail
            go_meet
            case rel => exact ⟨by rw [d3], q, K, P, S, hJ, fun h => hSu.1 (by omega), fun h => hSu.2 (by omega)⟩
        case rest =>
          obtain ⟨rfl, q, K, P, S, hJ, hs1, hs2⟩ := hcut
          clear hSu
          obtain ⟨hbl, hcell⟩ := HC.out
          have cs : wc.cell? ⟨b, off + l.length, none⟩ = some (.string s) := by rw [hJ.st.2.cell (p := ⟨b, off + l.length, none⟩) hbl]; exact hcell
          have e0 : (0 : Int) ≤ (l.length : Int) := by omega
          have e1 : (l.length : Int) < (n0 : Int) := by omega
          obtain ⟨k, hk⟩ : ∃ k, k = l.length := ⟨_, rfl⟩
          rw [← hk] at cs e0 e1 hT hl8 hlt hs1 hs2 d1 d2 ⊢
          have HK := Lib.hid hk
          have HJ := Lib.hid hJ
          have HS1 := Lib.hid hs1
          have HS2 := Lib.hid hs2
          clear hk hJ hs1 hs2 HC hcell
          have hone : ∃ tx : ByteArray, tx.size ≤ 150 ∧ tx = if 150 < s.size then s.extract 0 150 else s := by
            refine ⟨_, ?_, rfl⟩
            split
            · rw [ByteArray.size_extract]; omega
            · omega
          obtain ⟨tx, htx, hte⟩ := hone
          have HTE := Lib.hid hte; clear hte
          by_cases hm : 150 < s.size
          all_goals
            first
              | (have m1 : (150 : Int) < (s.size : Int) := by omega
                 have m2 : (150 : Int) ≤ (s.size : Int) := by omega
                 go_wp2_with fail
                 go_quiet (fail)
                 rw [show s.extract 0 150 = tx from by rw [HTE.out, if_pos hm]]
                 clear m1 m2)
              | (have m3 : decide ((150 : Int) < (s.size : Int)) = false := decide_eq_false (by omega)
                 have m4 : (s.size : Int) ≤ 150 := by omega
                 have m5 : (if (150 : Int) < (s.size : Int) then (150 : Int) else (s.size : Int)) = (s.size : Int) := if_neg (by omega)
                 have m6 : (0 : Int) ≤ (s.size : Int) := by omega
                 go_wp2_with fail
                 go_quiet (fail)
                 obtain rfl : tx = s := by rw [HTE.out, if_neg hm]
                 clear m3 m4 m5 m6)
            clear cs HTE hm
            have hb1 : Below wc.heap.size wc (wc.drewN nq) := below_drewN (Below.refl _ _) nq
            have hJ := HJ.out.more hb1
            generalize wc.drewN nq = W1 at hJ ⊢
            clear HJ hb1
            obtain ⟨n, hn⟩ : ∃ n, n = Frame.need tx.size := ⟨_, rfl⟩
            have q1 : 1 ≤ n := by subst hn; unfold Frame.need; omega
            have q2 : n ≤ 3 := by subst hn; unfold Frame.need; split <;> omega
            have q3 : tx.size ≤ 53 * n := by subst hn; unfold Frame.need; split <;> omega
            have q4 : 53 * (n - 1) ≤ tx.size := by subst hn; unfold Frame.need; split <;> omega
            have hcut := fun w => cut_good 5 (total l) tx n hn (by decide) (by omega) w
            have HCUT : Hid (∀ w, Calls Try.prog 7 #[.int .i64 5, .int .i64 (total l : Int), .string tx] w fun x w' => ∃ v, x = .returned (.tuple #[v, .int .i64 0]) ∧ w'.ownsRow w.heap.size 34 4 v n (Frame.parts 5 (total l) n tx n) ∧ Below w.heap.size w w') := Lib.hid hcut
            clear hcut hn
            have hgx : (⟨5, tx, false, total l, n⟩ : Item).good := ⟨q1, q4, q3, by show total l + n ≤ 64; omega, by show 1 ≤ 5 ∧ 5 ≤ 16777215; omega⟩
            have hfx := frames_at (⟨5, tx, false, total l, n⟩ : Item) rfl
            have hff := frames_fine (⟨5, tx, false, total l, n⟩ : Item) hgx rfl
            have hfl : (⟨5, tx, false, total l, n⟩ : Item).frames.length = n := by rw [Item.frames_length]; unfold Item.len; simp
            have hpf := parts_frames (⟨5, tx, false, total l, n⟩ : Item) rfl
            have hpos : ∀ i (hi : i < n), (frOf (⟨5, tx, false, total l, n⟩ : Item) i).a = ((total l + i : Nat) : Int) := fun i hi => by
              show (total l : Int) + (i : Int) = _; omega
            obtain ⟨X, hX⟩ : ∃ X : Item, X = ⟨5, tx, false, total l, n⟩ := ⟨_, rfl⟩
            replace hpf : Frame.parts 5 (total l) n tx n = X.frames.flatMap Fr.cells := by rw [hX]; exact hpf
            rw [← hX] at hgx hff hfl hpos
            replace hfx : ∀ i, i < n → X.frames[i]? = some (frOf X i) := by rw [hX]; exact hfx
            have HX := Lib.hid hX
            have HGX := Lib.hid hgx
            have HFX := Lib.hid hfx
            have HFF := Lib.hid hff
            have HFLN := Lib.hid hfl
            have HPF := Lib.hid hpf
            have HPOS := Lib.hid hpos
            have HJ := Lib.hid hJ
            clear hJ hX hgx hfx hff hfl hpf hpos
            go_wp2_with fail
            refine (HCUT.out _).mono ?_
            rintro x w2 ⟨vc, rfl, hrc, hB2⟩
            have hrc2 := owned_base hrc HJ.out.st.hz
            rw [HPF.out] at hrc2
            obtain ⟨g, cap, rfl, _, _⟩ := hrc.form (by omega)
            have hJ2 := HJ.out.more hB2
            clear HJ hB2 hrc HCUT HPF HA
            have hst3 : ∃ q P, St w [⟨r, kb, q, ⟨K, P, false, 0⟩⟩] w2 ∧ Sy (l.flatMap Item.frames ++ X.frames.take 0) K P S ∧ PosOk (l.flatMap Item.frames ++ X.frames.take 0) ∧ w2.ownsRow w.heap.size 9 1 u10 l.length ((l.map Item.s).map .string) ∧ w2.ownsRow w.heap.size 34 4 (.slice (some ⟨g, 0, none⟩) n cap) n (X.frames.flatMap Fr.cells) :=
              ⟨_, _, hJ2.st, by rw [List.take_zero, List.append_nil]; exact hJ2.sy, by rw [List.take_zero, List.append_nil]; exact hJ2.pos, hJ2.row, hrc2⟩
            have hgood := hJ2.good
            have hlen := hJ2.len
            have hclosed := hJ2.closed
            have HGD := Lib.hid hgood
            have HLN := Lib.hid hlen
            have HCD := Lib.hid hclosed
            clear hJ2 hrc2 hgood hlen hclosed
            go_wp2_with fail
            go_loopw [11, 17] (fun v11 v17 wr => ∃ i : Nat, i ≤ n ∧ v17 = .int .i64 (i : Int) ∧ v11 = .int .i64 ((total l : Int) + (i : Int)) ∧ ∃ q P, St w [⟨r, kb, q, ⟨K, P, false, 0⟩⟩] wr ∧ Sy (l.flatMap Item.frames ++ X.frames.take i) K P S ∧ PosOk (l.flatMap Item.frames ++ X.frames.take i) ∧ wr.ownsRow w.heap.size 9 1 u10 l.length ((l.map Item.s).map .string) ∧ wr.ownsRow w.heap.size 34 4 (.slice (some ⟨g, 0, none⟩) n cap) n (X.frames.flatMap Fr.cells)) (fun _ v17 _ => n - (intOf v17).toNat)
            case atStart => exact ⟨0, Nat.zero_le _, rfl, by simp, hst3⟩
            case round =>
              obtain ⟨i, hin, rfl, rfl, q, P, hS, hSy, hPo, hr10, hrc⟩ := hrel
              clear hst3
              by_cases hix : i < n
              · have d4 : decide (i < n) = true := decide_eq_true hix
                have hiF : i < X.frames.length := by rw [HFLN.out]; exact hix
                have hfi : X.frames[i] = frOf X i := by
                  have := HFX.out i hix
                  rw [List.getElem?_eq_getElem hiF] at this
                  exact Option.some.inj this
                have hcell : ∀ a u, (frOf X i).cells[a]? = some u → wr.cell? ⟨g, i * 4 + a, none⟩ = some u := fun a u hu => owned_cell hrc (i * 4 + a) u (by rw [flat_at X.frames i hiF a (cells_lt hu), hfi]; exact hu)
                have hfine := HFF.out (frOf X i) (by rw [← hfi]; exact List.getElem_mem _)
                have hsw := hSy.write (frOf X i)
                have hpw := hPo.snoc (f := frOf X i) (by rw [HPOS.out i hix, List.length_append, HTF.out, List.length_take, HFLN.out]; omega)
                have htk : X.frames.take (i + 1) = X.frames.take i ++ [frOf X i] := by rw [List.take_succ_eq_append_getElem hiF, hfi]
                rw [List.append_assoc, ← htk] at hsw hpw
                rw [List.length_append, HTF.out, List.length_take, HFLN.out, Nat.min_eq_left (Nat.le_of_lt hix)] at hsw
                have hPl : P.length ≤ 100000 := sec_len hSy (by rw [List.length_append, HTF.out, List.length_take, HFLN.out]; omega)
                have hKl := hSy.kl
                generalize frOf X i = f at hcell hfine hsw
                have c1 : wr.cell? ⟨g, i * 4, none⟩ = some (.int .i64 f.e) := hcell 0 _ rfl
                have c2 := hcell 1 _ rfl
                have c3 := hcell 2 _ rfl
                have c4 := hcell 3 _ rfl
                have hla := fun w => lay_fine hfine w
                have hsl := fine_len hfine
                generalize secOf f = sec at hla hsw hsl
                have hwr : ∀ W, St w [⟨r, kb, q, ⟨K, P, false, 0⟩⟩] W → Calls Try.prog 9 #[.pointer (some ⟨r, 0, none⟩), .int .i64 ((total l : Int) + (i : Int)), .string ⟨sec.toArray⟩] W fun x W' => x = .returned (.int .i64 0) ∧ ∃ pv', Did w.heap.size W W' r kb q pv' ⟨K, P ++ [(total l + i, sec)], false, 0⟩ := fun W hW => by
                  have := write1 hW.d1 hW.hz (total l + i) (by rw [hKl]; omega) sec hsl hPl
                  rwa [show ((total l + i : Nat) : Int) = (total l : Int) + (i : Int) from by omega] at this
                have e2 : (0 : Int) ≤ (i : Int) := by omega
                have e3 : (i : Int) < (n : Int) := by omega
                have HLA := Lib.hid hla
                have HWR := Lib.hid hwr
                have HSW := Lib.hid hsw
                have HPW := Lib.hid hpw
                clear hcell hfine hla hwr hsw hpw hsl htk hSy hPo hfi hiF hKl
                go_wp2_with fail
                refine (HLA.out _).mono ?_
                rintro x w3 ⟨rfl, hb⟩
                replace hS := hS.below hb
                replace hr10 := owned_below hr10 hb
                replace hrc := owned_below hrc hb
                clear hb c1 c2 c3 c4
                go_wp2_with fail
                refine (HWR.out _ hS).mono ?_
                rintro x w4 ⟨rfl, pv2, hd⟩
                replace hr10 := hd.rowE hS.d1 hr10 (by decide)
                replace hrc := hd.rowE hS.d1 hrc (by decide)
                replace hS := hS.do1 hd
                clear hd
                go_wp2_with fail
                exact ⟨⟨i + 1, by omega, by go_num, by go_num, _, _, hS, HSW.out, HPW.out, hr10, hrc⟩, by simp [intOf]; omega⟩
              · obtain rfl : i = n := by omega
                have d4 : decide (i < i) = false := decide_eq_false hix
                rw [List.take_of_length_le (by rw [HFLN.out]; exact Nat.le_refl _)] at hSy hPo
                rw [← HK.out] at hr10
                have HSY := Lib.hid hSy
                have HPO := Lib.hid hPo
                have HS := Lib.hid hS
                have hzw := hS.hz
                clear hSy hPo hrc hS
                go_wp2_with (at_builtin; refine wpList_append_lies _ rfl _ _ _ rfl w.heap.size 9 is _ 1 16 Try.underlying22 his hs0 hs1 hs2 rfl (by omega) _ k _ rfl (hr10.alloc _) ⟨wr.heap.size, 0, none⟩ 1 1 [.string tx] rfl rfl (World.news_of_block (cs := #[.string tx]) (t := 9) (fr := (0, 0)) (World.alloc_heap_new wr _)) (by simp [Value.oneCell']) (by omega) (by simp [maxLen]; omega) (by omega) (by simp; omega) (wr.heap.size + 1) (by simp) ?_; intro g9 cap9 w5 hown10 hgrow9 _ _; have hS5 := (HS.out.alloc (.cells #[.string tx] 9)).grown hgrow9 (fun q hq => by obtain ⟨h1, cur, h2⟩ := owned_block (hr10.alloc (.cells #[.string tx] 9)) hq; exact ⟨h1, cur, _, h2, by decide, by decide, by decide⟩))
                have hXs : X.s = tx := by rw [HX.out]
                have hXn : X.n = i := by rw [HX.out]
                have hXc : X.closed = false := by rw [HX.out]
                have hXl : X.len = i := by unfold Item.len; rw [hXn, hXc]; simp
                refine ⟨⟨l ++ [X], ⟨_, _, _, _, ⟨fun y hy => ?_, fun y hy => ?_, fun y hy => ?_, ?_, hS5, ?_, ?_⟩, sureAt.snoc (by rw [← HK.out]; exact HS1.out) (by rw [← HK.out]; exact HS2.out) X⟩, by rw [total_snoc, hXl]; go_num, by rw [List.length_append, ← HK.out]; go_num, by rw [List.length_append, ← HK.out]; simp; omega⟩, by have := HK.out; simp [intOf]; omega⟩
                · rcases List.mem_append.1 hy with h | h
                  · exact HGD.out y h
                  · rw [List.mem_singleton.1 h]; exact HGX.out
                · rcases List.mem_append.1 hy with h | h
                  · exact HLN.out y h
                  · rw [List.mem_singleton.1 h, hXn]; exact q2
                · rcases List.mem_append.1 hy with h | h
                  · exact HCD.out y h
                  · rw [List.mem_singleton.1 h]; exact hXc
                · rw [List.length_append, List.length_singleton, ← HK.out, List.map_append, List.map_append]
                  simpa [hXs] using hown10
                · rw [List.flatMap_append]
                  simpa using HSY.out
                · rw [List.flatMap_append]
                  simpa using HPO.out
      · have hl : l.length = n8 := by omega
        have hd : decide (l.length < n0) = false ∨ (decide (l.length < n0) = true ∧ decide ((l.length : Int) < 8) = false) := by
          by_cases h : l.length < n0
          · exact .inr ⟨decide_eq_true h, decide_eq_false (by omega)⟩
          · exact .inl (decide_eq_false h)
        have hjc : ∀ k, total (l.take sure) ≤ k → ∃ m M, joinGo ((l.flatMap Item.frames).take k) 0 [] [] false 0 = ((l.map Item.s).take M, m) ∧ sure ≤ M ∧ M ≤ l.length := fun k hk => by
          obtain ⟨m, h1, _, h2, _⟩ := join_cut l hJ.good k 0 [] 0 (Nat.le_refl _)
          rw [Nat.zero_add] at h1 h2
          exact ⟨m, _, by simpa using h1, many_ge l 0 k sure (by omega) (by omega), many_le l 0 k⟩
        have hfine : ∀ f ∈ l.flatMap Item.frames, f.fine := fun f hf => by
          obtain ⟨x, hx, hfx⟩ := List.mem_flatMap.1 hf
          exact frames_fine x (hJ.good x hx) (hJ.closed x hx) f hfx
        have hwl : (l.map Item.s).length = l.length := by simp
        have hrow := hJ.row
        have hst := hJ.st
        have hsy := hJ.sy
        have hpos := hJ.pos
        have hS2 : sure < l.length → total (l.take sure) ≤ S := fun h => Nat.le_of_eq (hSu.1 h).symm
        have hS3 : total (l.take sure) ≤ total l := by
          rw [← total_frames, ← total_frames]
          conv => rhs; rw [← List.take_append_drop sure l, List.flatMap_append, List.length_append]
          omega
        generalize total (l.take sure) = TS at hjc hS2 hS3
        generalize l.flatMap Item.frames = Fs at hjc hfine hsy hpos hTF
        generalize l.map Item.s = ws at hjc hwl hrow
        generalize total l = N at hTF hT hS3 ⊢
        obtain ⟨L, hL⟩ : ∃ L, L = l.length := ⟨_, rfl⟩
        rw [← hL] at hrow hjc hwl hd hT hS2 hl hlt hl8 ⊢
        obtain ⟨p10, c10, rfl⟩ := row_slice hrow
        have HJC := Lib.hid hjc
        have HFI := Lib.hid hfine
        have HWL := Lib.hid hwl
        have HTF := Lib.hid hTF
        have HPO := Lib.hid hpos
        have hsL : sure ≤ L := by omega
        clear hjc hfine hwl hTF hpos hJ hL hSu HA hl
        rcases hd with hd | ⟨hd', hd⟩
        all_goals
          go_upto_if 112 with (fail)
          go_cut [112] from 113 to 114 (fun v112 wx => v112 = .bool (decide (L ≤ sure)) ∧ ∃ q K P S, St w [⟨r, kb, q, ⟨K, P, false, 0⟩⟩] wx ∧ Sy Fs K P S ∧ TS ≤ S ∧ wx.ownsRow w.heap.size 9 1 (.slice p10 L c10) L (ws.map .string))
          case first =>
            by_cases hls : L ≤ sure
            · have d3 : decide (L ≤ sure) = true := decide_eq_true hls
              have hP0 : P.length ≤ 100000 := sec_len hsy (by rw [HTF.out]; omega)
              rw [d3]
              go_wp2_with fail
              refine (sync1 hst.d1 hst.hz hP0).mono ?_
              rintro x w3 ⟨rfl, hd⟩
              go_wp2_with fail
              go_meet
              case rel => exact ⟨by rw [d3], _, layW K P, [], Fs.length, hst.do1 hd, hsy.all (by rw [HTF.out]; omega), by rw [HTF.out]; exact hS3, hd.rowE hst.d1 hrow (by decide)⟩
            · have d3 : decide (L ≤ sure) = false := decide_eq_false hls
              rw [d3]
              go_wp2_with fail
              go_meet
              case rel => exact ⟨by rw [d3], q, K, P, S, hst, hsy, hS2 (by omega), hrow⟩
          case rest =>
            obtain ⟨rfl, q, K, P, S, hS, hSy, hTS, hr10⟩ := hcut
            clear hst hsy hS2 hS3 hrow hd
            try clear hd'
            have hPl : P.length ≤ 100000 := sec_len hSy (by rw [HTF.out]; omega)
            obtain ⟨M0, hM0⟩ : ∃ M0, M0 = P.length := ⟨_, rfl⟩
            obtain ⟨ib, hib, hb0, hb1, hb2⟩ := info_parts infoBool
            have hmk : ∀ w : World, (Instr.makeSlice 46 (.int .i64 (M0 : Int)) (.int .i64 (M0 : Int))).run Try.prog w = .ok (.slice (some ⟨w.heap.size, 0, none⟩) M0 M0) (w.alloc (.cells (bools M0 []).toArray 4)) := fun w => by
              have := run_make (P := Try.prog) w 46 4 ib _ Try.underlying46 hib hb0 .i64 .i64 (M0 : Int) (M0 : Int) (by omega) (Int.le_refl _) (by rw [hb2]; omega) (by omega)
              rw [Int.toNat_natCast, hb1, made_bools] at this
              exact this
            have hpe := pending_any hS.d1
            dsimp only at hpe
            rw [← hM0] at hpe hPl
            have HM0 := Lib.hid hM0
            have HSY := Lib.hid hSy
            clear hM0 hSy
            go_wp2_with fail
            refine hpe.mono ?_
            rintro x v ⟨rfl, rfl⟩
            clear hpe
            go_wp2_with fail
            have hub : (wc.alloc (.cells (bools M0 []).toArray 4)).heap[wc.heap.size]? = some (.cells (bools M0 []).toArray 4 (0, 0)) := World.alloc_heap_new wc _
            have hst : St w [⟨r, kb, q, ⟨K, P, false, 0⟩⟩] (wc.alloc (.cells (bools M0 []).toArray 4)) ∧ (wc.alloc (.cells (bools M0 []).toArray 4)).ownsRow w.heap.size 9 1 (.slice p10 L c10) L (ws.map .string) := ⟨hS.alloc _, hr10.alloc _⟩
            have hubz : w.heap.size ≤ wc.heap.size := hS.hz
            clear hmk hS hr10
            generalize wc.alloc (.cells (bools M0 []).toArray 4) = v0 at hub hst ⊢
            generalize wc.heap.size = ub at hub hubz ⊢
            go_loopw [21, 22] (fun v21 v22 wr => ∃ i : Nat, i ≤ ks.length ∧ (M0 = 0 → i = 0) ∧ v22 = .int .i64 (i : Int) ∧ St w [⟨r, kb, q, ⟨K, P, false, 0⟩⟩] wr ∧ wr.ownsRow w.heap.size 9 1 (.slice p10 L c10) L (ws.map .string) ∧ wr.ownsRow w.heap.size 3 1 v21 (keepTo ks M0 i).length (ints (keepTo ks M0 i)) ∧ wr.heap[ub]? = some (.cells (bools M0 (keepTo ks M0 i)).toArray 4 (0, 0))) (fun _ v22 _ => ks.length - (intOf v22).toNat)
            case atStart => exact ⟨0, Nat.zero_le _, fun _ => rfl, rfl, hst.1, hst.2, World.ownsRow_nil _ _ _ _, hub⟩
            case round =>
              obtain ⟨i, hil, him, rfl, hS, hr10, hown, hmi⟩ := hrel
              clear hst hub
              have e0 : (0 : Int) ≤ (i : Int) := by omega
              by_cases hgo : i < ks.length ∧ 0 < M0
              · obtain ⟨h1, h3⟩ := hgo
                have d4 : decide (i < ks.length) = true := decide_eq_true h1
                have d5 : decide (0 < M0) = true := decide_eq_true h3
                obtain ⟨g, off, hg, hcg⟩ := HKC.out wr hS.2 i h1
                subst hg
                have hrc := HKG.out ks[i] (List.getElem_mem _)
                have hks := keepTo_succ ks M0 i h1
                have hcl := Frame.pickOf_lt ks[i] h3
                have hko := keepTo_ok ks M0 i h3
                generalize ks[i] = c at hcg hrc hks hcl
                have hcm : wr.cell? ⟨ub, Frame.pickOf c M0, none⟩ = some (.bool (decide (Frame.pickOf c M0 ∈ keepTo ks M0 i))) := by
                  rw [cell_of_row _ _ _ _ _ (0, 0) hmi]
                  simpa using bools_at M0 (keepTo ks M0 i) (Frame.pickOf c M0) hcl
                have hfm : wr.frozen? ⟨ub, Frame.pickOf c M0, none⟩ = false := frozen_of_row _ _ _ _ _ hmi
                have hpk := pick_any c M0 hrc h3 (by omega) wr
                have hKL := nodup_len M0 _ hko.1 hko.2
                have e1 : (i : Int) < (ks.length : Int) := by omega
                clear hko
                by_cases hin : Frame.pickOf c M0 ∈ keepTo ks M0 i
                · rw [if_pos hin] at hks
                  rw [decide_eq_true hin] at hcm
                  have HM := Lib.hid hmi
                  have HKS := Lib.hid hks
                  have HOW := Lib.hid hown
                  have HS := Lib.hid hS
                  have HR := Lib.hid hr10
                  generalize Frame.pickOf c M0 = pk at hcl hcm hfm hpk
                  have e2 : (0 : Int) ≤ (pk : Int) := by omega
                  have e3 : (pk : Int) < (M0 : Int) := by omega
                  clear hmi hks hin hown hS hr10
                  go_wp2_with fail
                  refine hpk.mono ?_
                  rintro x w1 ⟨rfl, rfl⟩
                  go_wp2_with fail
                  exact ⟨⟨i + 1, by omega, by omega, by go_num, HS.out, HR.out, by rw [HKS.out]; exact HOW.out, by rw [HKS.out]; exact HM.out⟩, by simp [intOf]; omega⟩
                · rw [if_neg hin] at hks
                  rw [decide_eq_false hin] at hcm
                  have hset := heap_setCell_same wr ub (Frame.pickOf c M0) _ _ (.bool true) hmi
                  have hs2 : (bools M0 (keepTo ks M0 i)).toArray.setIfInBounds (Frame.pickOf c M0) (.bool true) = (bools M0 (keepTo ks M0 (i + 1))).toArray := by
                    rw [hks, ← bools_set _ _ _ hcl]; simp
                  rw [hs2] at hset
                  generalize Frame.pickOf c M0 = pk at hcl hcm hfm hpk hks hset
                  have hown2 := owned_set (i := pk) (u := .bool true) hown hmi (by decide)
                  have hr2 := owned_set (i := pk) (u := .bool true) hr10 hmi (by decide)
                  have hS2 := hS.grown (grown_setCell (W := wr) (b := ub) (i := pk) (.bool true)) (fun q hq => by cases hq; exact ⟨hubz, _, _, hmi, by decide, by decide, by decide⟩)
                  have hsz3 : (wr.setCell ⟨ub, pk, none⟩ (.bool true)).heap.size = wr.heap.size := by simp [World.setCell]
                  have hnb : ((wr.setCell ⟨ub, pk, none⟩ (.bool true)).alloc (.cells #[.int .i64 (pk : Int)] 3)).heap[wr.heap.size]? = some (.cells #[.int .i64 (pk : Int)] 3 (0, 0)) := by
                    have := World.alloc_heap_new (wr.setCell ⟨ub, pk, none⟩ (.bool true)) (.cells #[.int .i64 (pk : Int)] 3)
                    rwa [hsz3] at this
                  have hub2 : ((wr.setCell ⟨ub, pk, none⟩ (.bool true)).alloc (.cells #[.int .i64 (pk : Int)] 3)).heap[ub]? = some (.cells (bools M0 (keepTo ks M0 (i + 1))).toArray 4 (0, 0)) := (Go.heap_alloc_old _ _ (by rw [hsz3]; exact (Array.getElem?_eq_some_iff.1 hmi).1)).trans hset
                  have HNZ : Hid (((wr.setCell ⟨ub, pk, none⟩ (.bool true)).alloc (.cells #[.int .i64 (pk : Int)] 3)).heap.size = wr.heap.size + 1) := Lib.hid (by rw [World.size_alloc, hsz3])
                  have HNB := Lib.hid hnb
                  have HUB := Lib.hid hub2
                  have HKS := Lib.hid hks
                  have HOW := Lib.hid (hown2.alloc (.cells #[.int .i64 (pk : Int)] 3))
                  have HR := Lib.hid (hr2.alloc (.cells #[.int .i64 (pk : Int)] 3))
                  have HS := Lib.hid (hS2.alloc (.cells #[.int .i64 (pk : Int)] 3))
                  have hwz : w.heap.size ≤ wr.heap.size := hS.hz
                  have e2 : (0 : Int) ≤ (pk : Int) := by omega
                  have e3 : (pk : Int) < (M0 : Int) := by omega
                  clear hmi hks hin hown hS hr10 hset hs2 hown2 hr2 hS2 hsz3 hnb hub2
                  go_wp2_with fail
                  refine hpk.mono ?_
                  rintro x w1 ⟨rfl, rfl⟩
                  clear hpk
                  go_wp2_with (at_builtin; refine wpList_append_lies _ rfl _ _ _ rfl w.heap.size 3 ii _ 1 8 Try.underlying45 hii hi0 hi1 hi2 rfl (by omega) _ (keepTo ks M0 i).length _ rfl HOW.out ⟨wr.heap.size, 0, none⟩ 1 1 [.int .i64 (pk : Int)] rfl rfl (World.news_of_block (cs := #[.int .i64 (pk : Int)]) (t := 3) (fr := (0, 0)) HNB.out) (by simp [Value.oneCell']) (by omega) (by simp [maxLen]; omega) (by omega) (by rw [HNZ.out]; omega) (wr.heap.size + 1) (by rw [HNZ.out]) ?_; intro gg cap w2 hown1 hgrow hat hlt2)
                  have hS3 := HS.out.grown hgrow (fun q hq => by
                    obtain ⟨h1, cur, h2⟩ := owned_block HOW.out hq
                    exact ⟨h1, cur, _, h2, by decide, by decide, by decide⟩)
                  have hr3 := owned_apart (by decide) HR.out HOW.out hgrow
                  have hu3 : w2.heap[ub]? = some (.cells (bools M0 (keepTo ks M0 (i + 1))).toArray 4 (0, 0)) := (hgrow.block _ (Array.getElem?_eq_some_iff.1 HUB.out).1 (fun e => by
                    obtain ⟨_, cur, hc⟩ := owned_block HOW.out e.symm
                    have := congrArg (fun o => match o with | some (Obj.cells _ t _) => t | _ => 0) (HUB.out.symm.trans hc)
                    simp at this)).trans HUB.out
                  refine ⟨⟨i + 1, by omega, by omega, by go_num, hS3, hr3, ?_, hu3⟩, by simp [intOf]; omega⟩
                  rw [HKS.out]
                  simp only [ints, List.map_append, List.length_append, List.length_singleton, List.map_cons, List.map_nil]
                  exact hown1
              · have hko : (∀ x ∈ keepTo ks M0 i, x < P.length) ∧ (keepTo ks M0 i).Nodup := by
                  rw [← HM0.out]
                  rcases Nat.eq_zero_or_pos M0 with h0 | h0
                  · rw [him h0, keepTo_zero]
                    exact ⟨by simp, List.nodup_nil⟩
                  · exact keepTo_ok ks M0 i h0
                have hKL := nodup_len _ _ hko.1 hko.2
                have hdd : (decide (i < ks.length) = true ∧ decide (0 < M0) = false) ∨ decide (i < ks.length) = false := by
                  by_cases h : i < ks.length
                  · exact .inl ⟨decide_eq_true h, decide_eq_false (by omega)⟩
                  · exact .inr (decide_eq_false h)
                generalize keepTo ks M0 i = KL at hown hko hKL
                obtain ⟨hK2l, hK2⟩ := HSY.out.crash KL
                have hPl2 : P.length ≤ 100000 := by rw [← HM0.out]; exact hPl
                have HKO := Lib.hid hko
                have HK2L := Lib.hid hK2l
                have HK2 := Lib.hid hK2
                have hSN : S ≤ N := by have := HSY.out.lo; rw [HTF.out] at this; exact this
                clear hmi hko hK2l hK2 him hgo
                rcases hdd with ⟨hd1, hd2⟩ | hd1
                all_goals
                  go_wp2_with fail
                  refine (crash1 hS.d1 hS.hz hPl2 _ KL (by omega) hown HKO.out.1 HKO.out.2).mono ?_
                  rintro x w3 ⟨rfl, hd⟩
                  replace hr10 := hd.rowE hS.d1 hr10 (by decide)
                  replace hS := hS.do1 hd
                  clear hd hown hd1
                  try clear hd2
                  generalize layW K (KL.filterMap fun x => P[x]?) = K2 at HK2L HK2 hS
                  have hst : (∃ q, St w [⟨r, kb, q, ⟨K2, [], false, 0⟩⟩] w3) ∧ w3.ownsRow w.heap.size 9 1 (.slice p10 L c10) L (ws.map .string) := ⟨⟨_, hS⟩, hr10⟩
                  clear hS hr10
                  go_wp2_with fail
                  go_loopw [25, 26] (fun v25 v26 wr => ∃ i : Nat, i ≤ N ∧ v26 = .int .i64 (i : Int) ∧ (∃ q, St w [⟨r, kb, q, ⟨K2, [], false, 0⟩⟩] wr) ∧ wr.ownsRow w.heap.size 9 1 (.slice p10 L c10) L (ws.map .string) ∧ wr.ownsRow w.heap.size 34 4 v25 i ((Fs.take i).flatMap Fr.cells)) (fun _ v26 _ => 64 - (intOf v26).toNat)
                  case atStart => exact ⟨0, Nat.zero_le _, rfl, hst.1, hst.2, World.ownsRow_nil _ _ _ _⟩
                  case round =>
                    obtain ⟨i, hiN, rfl, ⟨q, hS⟩, hr10, hr25⟩ := hrel
                    clear hst
                    have hi64 : i < 64 := by omega
                    have d4 : decide ((i : Int) < 64) = true := decide_eq_true (by omega)
                    have hiK : i < K2.length := by rw [HK2L.out]; exact hi64
                    have hr := read1 hS.d1 i hiK (by simp)
                    rw [show (layW K2 [])[i]'(by rw [layW_length]; exact hiK) = K2[i] from rfl] at hr
                    rcases HK2.out i hi64 with ⟨f, hf, hkf⟩ | ⟨hSi, hkf⟩
                    · rw [List.getElem?_eq_getElem hiK] at hkf
                      rw [Option.some.inj hkf] at hr
                      have hff := HFI.out f (List.mem_of_getElem? hf)
                      have hfa := HPO.out i f hf
                      have hiF : i < N := by have := (List.getElem?_eq_some_iff.1 hf).1; rw [HTF.out] at this; exact this
                      have htk : (Fs.take (i + 1)).flatMap Fr.cells = (Fs.take i).flatMap Fr.cells ++ f.cells := by
                        have hlt := (List.getElem?_eq_some_iff.1 hf).1
                        have he := (List.getElem?_eq_some_iff.1 hf).2
                        rw [List.take_succ_eq_append_getElem hlt, he, List.flatMap_append]
                        simp
                      have g5 : (f.a != (i : Int)) = false := by rw [hfa]; simp
                      have hrf := fun w => read_fine hff w
                      generalize secOf f = sec at hr hrf
                      have HR := Lib.hid hr
                      have HRF := Lib.hid hrf
                      have HTK := Lib.hid htk
                      clear hr hrf htk hkf hf hff hfa
                      go_wp2_with fail
                      refine HR.out.mono ?_
                      rintro x w5 ⟨rfl, hb⟩
                      replace hS := hS.below hb
                      replace hr10 := owned_below hr10 hb
                      replace hr25 := owned_below hr25 hb
                      clear hb HR
                      go_wp2_with fail
                      refine (HRF.out _).mono ?_
                      rintro x w6 ⟨rfl, hb⟩
                      replace hS := (hS.below hb).alloc (.cells #[.int .i64 f.e, .int .i64 f.a, .int .i64 f.k, .string f.s] 34)
                      replace hr10 := (owned_below hr10 hb).alloc (.cells #[.int .i64 f.e, .int .i64 f.a, .int .i64 f.k, .string f.s] 34)
                      replace hr25 := (owned_below hr25 hb).alloc (.cells #[.int .i64 f.e, .int .i64 f.a, .int .i64 f.k, .string f.s] 34)
                      clear hb HRF
                      have hx := World.alloc_heap_new w6 (.cells #[.int .i64 f.e, .int .i64 f.a, .int .i64 f.k, .string f.s] 34)
                      have HS := Lib.hid (hS.alloc (.cells #[.int .i64 f.e, .int .i64 f.a, .int .i64 f.k, .string f.s] 34))
                      have HR10 := Lib.hid (hr10.alloc (.cells #[.int .i64 f.e, .int .i64 f.a, .int .i64 f.k, .string f.s] 34))
                      have HR25 := Lib.hid (hr25.alloc (.cells #[.int .i64 f.e, .int .i64 f.a, .int .i64 f.k, .string f.s] 34))
                      have hnb := World.alloc_heap_new (w6.alloc (.cells #[.int .i64 f.e, .int .i64 f.a, .int .i64 f.k, .string f.s] 34)) (.cells #[.int .i64 f.e, .int .i64 f.a, .int .i64 f.k, .string f.s] 34)
                      rw [World.size_alloc] at hnb
                      have HNB := Lib.hid hnb
                      have hz6 : w.heap.size ≤ w6.heap.size + 1 := by have := hS.hz; simpa using this
                      clear hS hr10 hr25 hx hnb
                      go_wp2_with (at_builtin; refine wpList_append_lies _ rfl _ _ _ rfl w.heap.size 34 i0 _ 4 40 Try.underlying28 hi hz0 hz1 hz2 rfl (by omega) _ i _ rfl HR25.out ⟨w6.heap.size + 1, 0, none⟩ 1 1 [.int .i64 f.e, .int .i64 f.a, .int .i64 f.k, .string f.s] rfl rfl (World.news_of_block (cs := #[.int .i64 f.e, .int .i64 f.a, .int .i64 f.k, .string f.s]) (t := 34) (fr := (0, 0)) HNB.out) (by simp [Value.oneCell']) (by omega) (by simp [maxLen]; omega) (by omega) (by simp; omega) (w6.heap.size + 2) (by simp) ?_; intro gg cap w7 hown1 hgrow hat hlt2)
                      have hS3 := HS.out.grown hgrow (fun q hq => by
                        obtain ⟨h1, cur, h2⟩ := owned_block HR25.out hq
                        exact ⟨h1, cur, _, h2, by decide, by decide, by decide⟩)
                      have hr3 := owned_apart (by decide) HR10.out HR25.out hgrow
                      exact ⟨⟨i + 1, by omega, by go_num, ⟨_, hS3⟩, hr3, by rw [HTK.out]; exact hown1⟩, by simp [intOf]; omega⟩
                    · rw [List.getElem?_eq_getElem hiK] at hkf
                      rw [Option.some.inj hkf] at hr
                      have hrz := fun w => read_zero w
                      generalize zsec = sec at hr hrz
                      have HR := Lib.hid hr
                      have HRZ := Lib.hid hrz
                      obtain ⟨m, M, hjo, hsM, hML⟩ := HJC.out i (by omega)
                      have HJO := Lib.hid hjo
                      obtain ⟨p25, c25, rfl⟩ := row_slice hr25
                      obtain ⟨hcap3, hcm3⟩ : L ≤ c10 ∧ c10 ≤ maxLen := by
                        obtain ⟨p', c', hv, h1, h2⟩ := row_slice' hr10
                        simp at hv
                        obtain ⟨_, rfl⟩ := hv
                        exact ⟨h1, h2⟩
                      unfold maxLen at hcm3
                      clear hr hrz hkf hjo
                      go_wp2_with fail
                      refine HR.out.mono ?_
                      rintro x w5 ⟨rfl, hb⟩
                      replace hS := hS.below hb
                      replace hr10 := owned_below hr10 hb
                      replace hr25 := owned_below hr25 hb
                      clear hb HR
                      go_wp2_with fail
                      refine (HRZ.out _).mono ?_
                      rintro x w6 ⟨rfl, hb⟩
                      replace hS := (hS.below hb).alloc (.cells #[.int .i64 0, .int .i64 0, .int .i64 0, .string ⟨#[]⟩] 34)
                      replace hr10 := (owned_below hr10 hb).alloc (.cells #[.int .i64 0, .int .i64 0, .int .i64 0, .string ⟨#[]⟩] 34)
                      replace hr25 := (owned_below hr25 hb).alloc (.cells #[.int .i64 0, .int .i64 0, .int .i64 0, .string ⟨#[]⟩] 34)
                      clear hb HRZ
                      have L25 := Lies.own hr25
                      have L10 := Lies.own hr10
                      have HTF2 := HTF.out
                      clear hr10 hr25
                      go_wp2_with fail
                      refine (join_lies _ (by rw [List.length_take]; omega) _ L25).mono ?_
                      rintro x w8 ⟨vb, rfl, hrb, hb⟩
                      rw [HJO.out] at hrb ⊢
                      replace hS := hS.below hb
                      replace L10 := L10.below hb
                      clear L25 hb HTF2
                      have hlb : (ws.take M).length = M := by rw [List.length_take, HWL.out]; omega
                      obtain ⟨pb, cb, rfl, _, _⟩ := row_slice' hrb
                      have LB : Lies w8 (.slice pb (ws.take M).length cb) (ws.take M).length 1 ((ws.take M).map .string) := Lies.own hrb
                      rw [hlb] at LB ⊢
                      have LC := L10.cut hML
                      rw [Nat.mul_one, ← List.map_take] at LC
                      have hmin : (if (L : Int) < (M : Int) then (L : Int) else (M : Int)) = (M : Int) := if_neg (by omega)
                      have d5 : decide (sure ≤ M) = true := decide_eq_true hsM
                      have d6 : decide (M ≤ L) = true := decide_eq_true hML
                      have hml : (ws.take M).length ≤ 9223372036854775807 := by rw [hlb]; omega
                      have HML := Lib.hid hml
                      have HLB := Lib.hid LB
                      have HLC := Lib.hid LC
                      clear hrb hlb L10 hml LB LC
                      go_wp2_with fail
                      refine (sameTexts_any (ws.take M) (ws.take M) _ HML.out HLB.out HLC.out).mono ?_
                      rintro x w9 ⟨rfl, hb⟩
                      rw [show decide (ws.take M = ws.take M) = true from decide_eq_true rfl]
                      replace hS := hS.below hb
                      clear hb
                      go_wp2_with fail
                      go_ret
                      exact ⟨rfl, hS.2⟩
end Go.Proofs.Ytnoegbogalfdgaa

/- The walk of ValKinds. -/
import Derived.Test.YtbmfclankoblfaaDoorBun15
set_option linter.unusedSimpArgs false
set_option linter.unusedVariables false
namespace Go.Proofs.YtbmfclankoblfaaDoor
open Go Go.RowKit Go.Shelf

/-- up to the value's bytes: the same for all laws that begin so -/
theorem reads_kind {v : V} (h : v.ok = true) {s : ByteArray} (hs : s.data.toList = v.bytes) : readsNum s 0 v.k := by
  obtain ⟨r, hr⟩ := bytes_head v
  refine ⟨by decide, by omega, ?_, ?_⟩
  · have := ok_fine h
    exact ⟨this.k.1, this.k.2⟩
  · rw [show (0 : Int).toNat = 0 from rfl, List.drop_zero, hs, hr]
    exact List.prefix_append _ _
theorem reads_num {v : V} (h : v.ok = true) (hk : v.k = 1 ∨ v.k = 3 ∨ v.k = 4) {s : ByteArray} (hs : s.data.toList = v.bytes) : readsNum s (((Wire.num v.k).length : Nat) : Int) v.n ∧ (Wire.num v.k).length + (Wire.num v.n).length = s.size := by
  have hb := bytes_num hk
  have hsz : s.size = v.bytes.length := by rw [← hs]; simp
  rw [hb, List.length_append] at hsz
  refine ⟨⟨by omega, by omega, ?_, ?_⟩, hsz.symm⟩
  · have := ok_fine h
    exact ⟨this.n.1, this.n.2⟩
  · rw [Int.toNat_natCast, hs, hb, List.drop_left]
    exact List.prefix_refl _

set_option maxHeartbeats 2000000 in
set_option maxRecDepth 100000 in
theorem valKinds_walk (x : Raw) (hx : x.fine) (p : Option Addr) (c : Nat) (ea : Addr) (w : World) (hT : Tabs w) (hE : errLies ea w) (hL : Lies w (.slice p x.l.length c) x.l.length 3 (rawsCells x.l)) :
    Calls Tryd.prog 9 #[rawV x p c] w fun e w' => e = .returned (.bool true) ∧ Below w.heap.size w w' := by
  have O0 := (Ok.alloc (ea := ea) (w := w) ⟨hT, hE, Below.refl _ _⟩ (.cells (rawA x p c) 24))
  have R0 := RawBox.new w hx hL
  have hok := valOf_ok x
  have hlen := bytes_len hok
  obtain ⟨v, hv⟩ : ∃ v, v = valOf x := ⟨_, rfl⟩
  have hof := fun W => valOf_any x hx p c W
  unfold valOfPost at hof
  rw [← hv] at hof hok hlen
  obtain ⟨s, hs⟩ : ∃ s : ByteArray, s = ⟨v.bytes.toArray⟩ := ⟨_, rfl⟩
  have hsl : s.data.toList = v.bytes := by rw [hs]
  have hsz : s.size = v.bytes.length := by rw [hs]; exact ba_size _
  have hvat : ∀ W y, VAt 1 W v y → Tabs W → Calls Tryd.prog 12 #[y.v] W fun e w' => e = .returned (.tuple #[.string s, .int .i64 0]) ∧ Below W.heap.size W w' := fun W y h ht => by rw [hs]; exact encode_ok h ht hok
  have hs9 : s.size ≤ 9223372036854775807 := by omega
  have hk0 := fun W (hE : errLies ea W) => readNum_some hs9 (reads_kind hok hsl) hE
  have hn0 := fun W (hk : v.k = 1 ∨ v.k = 3 ∨ v.k = 4) (hE : errLies ea W) => readNum_some hs9 (reads_num hok hk hsl).1 hE
  have hlast := fun (hk : v.k = 1 ∨ v.k = 3 ∨ v.k = 4) => (reads_num hok hk hsl).2
  have hkl : (Wire.num v.k).length ≤ 10 := Wire.num_len _ ⟨(ok_fine hok).k.1, (ok_fine hok).k.2⟩
  clear hs hsl hsz hok hT hE hL hlen hv
  generalize (Wire.num v.k).length = lk at hk0 hn0 hlast hkl
  generalize (Wire.num v.n).length = ln at hn0 hlast
  simp only [Int.zero_add] at hk0
  obtain ⟨vk, vn, vs, vl⟩ := v
  simp only [V.k, V.n] at hk0 hn0 hlast
  have HOF := Lib.hid hof
  have HV := Lib.hid hvat
  have HK := Lib.hid hk0
  have HN := Lib.hid hn0
  have HLAST := Lib.hid hlast
  clear hvat hk0 hn0 hlast hof
  go_enter Tryd.func9, Tryd.ntmps9
  go_wp2_with fail
  refine (awake_any ea _ O0.t O0.e).mono ?_
  rintro e W1 ⟨rfl, hB⟩
  have O1 := O0.below hB
  have R1 := R0.below hB
  clear hB O0 R0
  obtain ⟨r0, r1, r2, r3⟩ := R1.facts
  go_wp2_with fail
  refine (HOF.out _ R1.lies).mono ?_
  rintro e W2 ⟨⟨yk, yn, ys, yp, ym, yc⟩, rfl, hy, hB, _⟩
  have e1 : yk = vk := hy.top.2.1
  have e2 : yn = vn := hy.top.2.2.1
  subst e1 e2
  have V2 := VAtBox.new hy
  have O2 := (O1.below hB).alloc (.cells #[.int .i64 yk, .int .i64 yn, .string ys, .slice yp ym yc] 28)
  clear hB O1 R1 r0 r1 r2 r3 hy
  obtain ⟨⟨c0, c1, c2, c3⟩, _⟩ := V2.box.facts
  have V2 := Lib.hid V2
  have O2 := Lib.hid O2
  go_wp2_with fail
  generalize W2.heap.size = bv at V2 ⊢
  refine (HV.out _ ⟨yk, yn, ys, yp, ym, yc⟩ V2.out.at' O2.out.t).mono ?_
  rintro e W3 ⟨rfl, hB⟩
  have O3 := Lib.hid (O2.out.below hB)
  have V3 := Lib.hid (V2.out.below hB)
  clear hB O2 V2 c0 c1 c2 c3
  go_wp2_with fail
  refine (HK.out _ O3.out.e).mono ?_
  rintro e W4 ⟨rfl, hB⟩
  have O4 := Lib.hid (O3.out.below hB)
  have v4 := V3.out.below hB
  obtain ⟨⟨c0, c1, c2, c3⟩, _⟩ := v4.box.facts
  have V4 := Lib.hid v4
  clear hB O3 V3 v4
  by_cases h1 : yk = 1
  · subst h1
    have hl : ((lk : Int) + (ln : Int) == (s.size : Int)) = true := by rw [beq_iff_eq]; have := HLAST.out (by simp); omega
    go_wp2_with fail
    refine (HN.out _ (by simp) O4.out.e).mono ?_
    rintro e W5 ⟨rfl, hB⟩
    have O5 := Lib.hid (O4.out.below hB)
    have v5 := V4.out.below hB
    clear c0 c1 c2 c3
    obtain ⟨⟨c0, c1, c2, c3⟩, _⟩ := v5.box.facts
    clear hB O4 V4 v5
    go_wp2_with fail
    go_ret
    exact ⟨rfl, O5.out.b⟩
  · by_cases h3 : yk = 3
    · subst h3
      have hl : ((lk : Int) + (ln : Int) == (s.size : Int)) = true := by rw [beq_iff_eq]; have := HLAST.out (by simp); omega
      go_wp2_with fail
      refine (HN.out _ (by simp) O4.out.e).mono ?_
      rintro e W5 ⟨rfl, hB⟩
      have O5 := Lib.hid (O4.out.below hB)
      have v5 := V4.out.below hB
      clear c0 c1 c2 c3
      obtain ⟨⟨c0, c1, c2, c3⟩, _⟩ := v5.box.facts
      clear hB O4 V4 v5
      go_wp2_with fail
      go_ret
      exact ⟨rfl, O5.out.b⟩
    · by_cases h4 : yk = 4
      · subst h4
        have hl : ((lk : Int) + (ln : Int) == (s.size : Int)) = true := by rw [beq_iff_eq]; have := HLAST.out (by simp); omega
        go_wp2_with fail
        refine (HN.out _ (by simp) O4.out.e).mono ?_
        rintro e W5 ⟨rfl, hB⟩
        have O5 := Lib.hid (O4.out.below hB)
        have v5 := V4.out.below hB
        clear c0 c1 c2 c3
        obtain ⟨⟨c0, c1, c2, c3⟩, _⟩ := v5.box.facts
        clear hB O4 V4 v5
        go_wp2_with fail
        go_ret
        exact ⟨rfl, O5.out.b⟩
      · have d1 : (yk != 1) = true := by rw [bne_iff_ne]; exact h1
        have d3 : (yk != 3) = true := by rw [bne_iff_ne]; exact h3
        have d4 : (yk != 4) = true := by rw [bne_iff_ne]; exact h4
        clear h1 h3 h4
        go_wp2_with fail
        go_ret
        exact ⟨rfl, O4.out.b⟩
end Go.Proofs.YtbmfclankoblfaaDoor

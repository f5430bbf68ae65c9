/- The walk of ValWritten. -/
import Derived.Test.YtbmfclankoblfaaDoorBun15
import Derived.Test.YtbmfclankoblfaaDoorWrittenZ
set_option linter.unusedSimpArgs false
set_option linter.unusedVariables false
namespace Go.Proofs.YtbmfclankoblfaaDoor
open Go Go.RowKit Go.Shelf

theorem vtext_len {a : V} (h : a.ok = true) : a.text.length ≤ 1600 := by
  unfold V.text
  by_cases h5 : a.k = 5
  · rw [if_pos h5]
    obtain ⟨_, hl, hu⟩ := ok_list h h5
    have := itemsText_len a.l (fun u h => (okIn_parts (hu u h)).2)
    rw [List.length_cons, List.length_append, List.length_singleton]
    omega
  · rw [if_neg h5]
    have := textIn_len (ok_flat h h5)
    omega
theorem vtext_inj {a b : V} (ha : a.ok = true) (hb : b.ok = true) (h : a.text = b.text) : a = b := by
  have h1 := readV_text a ha [] (.inr (by simp))
  have h2 := readV_text b hb [] (.inr (by simp))
  rw [h, h2] at h1
  injection h1 with h1
  exact (Prod.mk.inj h1).1.symm

set_option maxHeartbeats 2000000 in
set_option maxRecDepth 100000 in
theorem valWritten_walk (x : Raw) (hx : x.fine) (p : Option Addr) (c : Nat) (y : Raw) (hy : y.fine) (p' : Option Addr) (c' : Nat) (s : ByteArray) (hs : s.size ≤ maxLen) (t : ByteArray) (ht : t.size ≤ maxLen) (ea : Addr) (w : World) (hT : Tabs w) (hE : errLies ea w) (hPw : Pow w)
    (hL : Lies w (.slice p x.l.length c) x.l.length 3 (rawsCells x.l)) (hL' : Lies w (.slice p' y.l.length c') y.l.length 3 (rawsCells y.l)) :
    Calls Tryd.prog 4 #[rawV x p c, rawV y p' c', .string s, .string t] w fun e w' => e = .returned (.bool true) ∧ Below w.heap.size w w' := by
  have O0 := (Ok.alloc (Ok.alloc (ea := ea) (w := w) ⟨hT, hE, Below.refl _ _⟩ (.cells (rawA x p c) 24)) (.cells (rawA y p' c') 24))
  have R0 := (RawBox.new w hx hL).alloc (.cells (rawA y p' c') 24)
  have Q0 := RawBox.new (w.alloc (.cells (rawA x p c) 24)) hy (hL'.below ((Below.refl _ _).alloc (Nat.le_refl _) _))
  have oka := valOf_ok x
  have okb := valOf_ok y
  obtain ⟨a, ha⟩ : ∃ a, a = valOf x := ⟨_, rfl⟩
  obtain ⟨b, hb⟩ : ∃ b, b = valOf y := ⟨_, rfl⟩
  have hofa := fun W => valOf_any x hx p c W
  have hofb := fun W => valOf_any y hy p' c' W
  unfold valOfPost at hofa hofb
  rw [← ha] at hofa oka
  rw [← hb] at hofb okb
  have hla := vtext_len oka
  have hlb := vtext_len okb
  obtain ⟨P, hP⟩ : ∃ P : ByteArray, P = ⟨a.text.toArray⟩ := ⟨_, rfl⟩
  obtain ⟨Q, hQ⟩ : ∃ Q : ByteArray, Q = ⟨b.text.toArray⟩ := ⟨_, rfl⟩
  have hPl : P.data.toList = a.text := by rw [hP]
  have hQl : Q.data.toList = b.text := by rw [hQ]
  have hPz : P.size = a.text.length := by rw [hP]; exact ba_size _
  have hQz : Q.size = b.text.length := by rw [hQ]; exact ba_size _
  have enca : ∀ W y, VAt 1 W a y → Below w.heap.size w W → Calls Tryd.prog 15 #[y.v] W fun e w' => e = .returned (.tuple #[.string P, .int .i64 0]) ∧ Below W.heap.size W w' := fun W y h hb => by rw [hP]; exact vtext_any a oka y W h (hPw.below hb) (hT.below hb)
  have encb : ∀ W y, VAt 1 W b y → Below w.heap.size w W → Calls Tryd.prog 15 #[y.v] W fun e w' => e = .returned (.tuple #[.string Q, .int .i64 0]) ∧ Below W.heap.size W w' := fun W y h hb => by rw [hQ]; exact vtext_any b okb y W h (hPw.below hb) (hT.below hb)
  obtain ⟨m, hm1, hm2, hm3, hm4⟩ := min_cut s
  obtain ⟨n, hn1, hn2, hn3, hn4⟩ := min_cut t
  have hms : (s.extract 0 m).size = m := by rw [ByteArray.size_extract]; omega
  have e2 : (s.extract 0 m).data.toList.length = m := by rw [text_len, hms]
  have hsp : (⟨#[32]⟩ : ByteArray).size = 1 := rfl
  have hread : readV (((((s.extract 0 m) ++ P) ++ ⟨#[32]⟩) ++ (t.extract 0 n)).data.toList.drop m) = some (a, a.text.length) := by
    have e1 : ((((s.extract 0 m) ++ P) ++ ⟨#[32]⟩) ++ (t.extract 0 n)).data.toList = (s.extract 0 m).data.toList ++ (a.text ++ (32 :: (t.extract 0 n).data.toList)) := by
      rw [← hPl]; simp [ByteArray.data_append]
    rw [e1, List.drop_append_of_le_length (by omega), List.drop_of_length_le (by omega), List.nil_append]
    exact readV_text a oka _ (.inr (fun c hc => by
      rw [List.head?_cons] at hc
      cases hc
      decide))
  have hread2 : readV (((s.extract 0 m) ++ P).data.toList.drop m) = some (a, a.text.length) := by
    have e1 : ((s.extract 0 m) ++ P).data.toList = (s.extract 0 m).data.toList ++ (a.text ++ []) := by
      rw [← hPl]; simp [ByteArray.data_append]
    rw [e1, List.drop_append_of_le_length (by omega), List.drop_of_length_le (by omega), List.nil_append]
    exact readV_text a oka _ (.inr (by simp))
  have hbig : ((((s.extract 0 m) ++ P) ++ ⟨#[32]⟩) ++ (t.extract 0 n)).size ≤ 140737488355327 := by
    rw [ByteArray.size_append, ByteArray.size_append, ByteArray.size_append, hms, hsp, ByteArray.size_extract]; omega
  have hpos : m ≤ ((((s.extract 0 m) ++ P) ++ ⟨#[32]⟩) ++ (t.extract 0 n)).size := by
    rw [ByteArray.size_append, ByteArray.size_append, ByteArray.size_append, hms]; omega
  have hbig2 : ((s.extract 0 m) ++ P).size ≤ 140737488355327 := by
    rw [ByteArray.size_append, hms]; omega
  have hpos2 : m ≤ ((s.extract 0 m) ++ P).size := by
    rw [ByteArray.size_append, hms]; omega
  have hsame := same_iff oka okb
  have hq2 : (P.toList == Q.toList) = (cmpV 1 a b == 0) := by
    rw [Bool.eq_iff_iff, beq_iff_eq, hsame, Lib.toList_data, Lib.toList_data, hPl, hQl]
    exact ⟨vtext_inj oka okb, fun h => by rw [h]⟩
  have hcmp := fun (W : World) (u v : It) (h : VAt 1 W a u) (h' : VAt 1 W b v) => refSame_any 1 a b u v W h h'
  have hself := fun (W : World) (u v : It) (h : VAt 1 W a u) (h' : VAt 1 W a v) => refSame_any 1 a a u v W h h'
  generalize (cmpV 1 a b == 0) = same at hq2 hcmp
  rw [← hPz] at hread hread2 hla
  rw [← hQz] at hlb
  clear hP hQ hPl hQl hPz hQz hT hE hPw hL hL' ha hb oka okb hsame hs ht e2 hsp hx hy
  have HOFA := Lib.hid hofa
  have HOFB := Lib.hid hofb
  have ENCA := Lib.hid enca
  have ENCB := Lib.hid encb
  have HREAD := Lib.hid hread
  have HREAD2 := Lib.hid hread2
  have HBIG := Lib.hid hbig
  have HPOS := Lib.hid hpos
  have HBIG2 := Lib.hid hbig2
  have HPOS2 := Lib.hid hpos2
  have HQ2 := Lib.hid hq2
  have HCMP := Lib.hid hcmp
  have HSELF := Lib.hid hself
  have HMS := Lib.hid hms
  clear hofa hofb enca encb hread hread2 hbig hpos hbig2 hpos2 hq2 hcmp hself hms
  have h01 : w.heap.size ≠ w.heap.size + 1 := by omega
  go_enter Tryd.func4, Tryd.ntmps4
  go_wp2_with fail
  refine (awake_any ea _ O0.t O0.e).mono ?_
  rintro e W1 ⟨rfl, hB⟩
  have O1 := O0.below hB
  have R1 := R0.below hB
  have Q1 := Q0.below hB
  rw [World.size_alloc] at Q1
  clear hB O0 R0 Q0
  obtain ⟨r0, r1, r2, r3⟩ := R1.facts
  have Q1 := Lib.hid Q1
  go_wp2_with fail
  refine (HOFA.out _ R1.lies).mono ?_
  rintro e W2 ⟨⟨ak, an, az, ap, am, ac⟩, rfl, hv, hB, _⟩
  have A2 := VAtBox.new hv
  have O2 := (O1.below hB).alloc (.cells #[.int .i64 ak, .int .i64 an, .string az, .slice ap am ac] 28)
  have q2 := (Q1.out.below hB).alloc (.cells #[.int .i64 ak, .int .i64 an, .string az, .slice ap am ac] 28)
  clear hB O1 R1 r0 r1 r2 r3 hv Q1
  obtain ⟨r0, r1, r2, r3⟩ := q2.facts
  have A2 := Lib.hid A2
  have O2 := Lib.hid O2
  have Q2 := Lib.hid q2
  clear q2
  go_wp2_with fail
  generalize W2.alloc (.cells #[.int .i64 ak, .int .i64 an, .string az, .slice ap am ac] 28) = U2 at A2 O2 Q2 r0 r1 r2 r3 ⊢
  generalize W2.heap.size = ba at A2 ⊢
  refine (HOFB.out _ Q2.out.lies).mono ?_
  rintro e W3 ⟨⟨bk, bn, bz, bp, bm, bc⟩, rfl, hv, hB, _⟩
  have B3 := VAtBox.new hv
  have O3 := (O2.out.below hB).alloc (.cells #[.int .i64 bk, .int .i64 bn, .string bz, .slice bp bm bc] 28)
  have A3 := (A2.out.below hB).alloc (.cells #[.int .i64 bk, .int .i64 bn, .string bz, .slice bp bm bc] 28)
  clear hB O2 A2 r0 r1 r2 r3 hv Q2
  obtain ⟨⟨c0, c1, c2, c3⟩, _⟩ := A3.box.facts
  have A3 := Lib.hid A3
  have O3 := Lib.hid O3
  have B3 := Lib.hid B3
  go_wp2_with fail
  generalize W3.alloc (.cells #[.int .i64 bk, .int .i64 bn, .string bz, .slice bp bm bc] 28) = U3 at A3 O3 B3 c0 c1 c2 c3 ⊢
  generalize W3.heap.size = bb at B3 ⊢
  refine (ENCA.out _ ⟨ak, an, az, ap, am, ac⟩ A3.out.at' O3.out.b).mono ?_
  rintro e W4 ⟨rfl, hB⟩
  have O4 := Lib.hid (O3.out.below hB)
  have A4 := Lib.hid (A3.out.below hB)
  have b4 := B3.out.below hB
  clear hB O3 A3 B3 c0 c1 c2 c3
  obtain ⟨⟨c0, c1, c2, c3⟩, _⟩ := b4.box.facts
  have B4 := Lib.hid b4
  clear b4
  go_wp2_with fail
  refine (ENCB.out _ ⟨bk, bn, bz, bp, bm, bc⟩ B4.out.at' O4.out.b).mono ?_
  rintro e W5 ⟨rfl, hB⟩
  have O5 := Lib.hid (O4.out.below hB)
  have A5 := Lib.hid (A4.out.below hB)
  have B5 := Lib.hid (B4.out.below hB)
  clear hB O4 A4 B4 c0 c1 c2 c3
  go_wp2_with fail
  refine (read_some HBIG.out HPOS.out HREAD.out O5.out.t).mono ?_
  rintro e W6 ⟨⟨uk, un, us, up, um, uc⟩, rfl, hv, hB⟩
  have U6 := Lib.hid (VAtBox.new hv)
  have O6 := Lib.hid ((O5.out.below hB).alloc (.cells #[.int .i64 uk, .int .i64 un, .string us, .slice up um uc] 28))
  have A6 := Lib.hid ((A5.out.below hB).alloc (.cells #[.int .i64 uk, .int .i64 un, .string us, .slice up um uc] 28))
  have B6 := Lib.hid ((B5.out.below hB).alloc (.cells #[.int .i64 uk, .int .i64 un, .string us, .slice up um uc] 28))
  clear hB hv O5 A5 B5
  go_wp2_with fail
  generalize W6.alloc (.cells #[.int .i64 uk, .int .i64 un, .string us, .slice up um uc] 28) = X6 at U6 O6 A6 B6 ⊢
  generalize W6.heap.size = bu at U6 ⊢
  refine (read_some HBIG2.out HPOS2.out HREAD2.out O6.out.t).mono ?_
  rintro e W7 ⟨⟨vk, vn, vs, vp, vm, vc⟩, rfl, hv, hB⟩
  have V7 := Lib.hid (VAtBox.new hv)
  have O7 := Lib.hid ((O6.out.below hB).alloc (.cells #[.int .i64 vk, .int .i64 vn, .string vs, .slice vp vm vc] 28))
  have A7 := Lib.hid ((A6.out.below hB).alloc (.cells #[.int .i64 vk, .int .i64 vn, .string vs, .slice vp vm vc] 28))
  have B7 := Lib.hid ((B6.out.below hB).alloc (.cells #[.int .i64 vk, .int .i64 vn, .string vs, .slice vp vm vc] 28))
  have U7 := Lib.hid ((U6.out.below hB).alloc (.cells #[.int .i64 vk, .int .i64 vn, .string vs, .slice vp vm vc] 28))
  clear hB hv O6 A6 B6 U6
  obtain ⟨⟨c0, c1, c2, c3⟩, _⟩ := A7.out.box.facts
  obtain ⟨⟨e0, e1, e2, e3⟩, _⟩ := B7.out.box.facts
  go_wp2_with fail
  generalize W7.alloc (.cells #[.int .i64 vk, .int .i64 vn, .string vs, .slice vp vm vc] 28) = X7 at V7 O7 A7 B7 U7 c0 c1 c2 c3 e0 e1 e2 e3 ⊢
  generalize W7.heap.size = bv at V7 ⊢
  refine (HCMP.out _ ⟨ak, an, az, ap, am, ac⟩ ⟨bk, bn, bz, bp, bm, bc⟩ A7.out.at' B7.out.at').mono ?_
  rintro e W8 ⟨rfl, hB⟩
  clear c0 c1 c2 c3 e0 e1 e2 e3
  have O8 := Lib.hid (O7.out.below hB)
  have A8 := Lib.hid (A7.out.below hB)
  have U8 := Lib.hid (U7.out.below hB)
  have V8 := Lib.hid (V7.out.below hB)
  clear hB O7 A7 B7 U7 V7
  obtain ⟨⟨c0, c1, c2, c3⟩, _⟩ := A8.out.box.facts
  obtain ⟨⟨e0, e1, e2, e3⟩, _⟩ := U8.out.box.facts
  go_wp2_with fail
  refine (HSELF.out _ ⟨uk, un, us, up, um, uc⟩ ⟨ak, an, az, ap, am, ac⟩ U8.out.at' A8.out.at').mono ?_
  rintro e W9 ⟨rfl, hB⟩
  rw [cmpV_self]
  have O9 := Lib.hid (O8.out.below hB)
  have A9 := Lib.hid (A8.out.below hB)
  have V9 := Lib.hid (V8.out.below hB)
  clear hB O8 A8 U8 V8 c0 c1 c2 c3 e0 e1 e2 e3
  obtain ⟨⟨c0, c1, c2, c3⟩, _⟩ := A9.out.box.facts
  obtain ⟨⟨e0, e1, e2, e3⟩, _⟩ := V9.out.box.facts
  go_wp2_with fail
  refine (HSELF.out _ ⟨vk, vn, vs, vp, vm, vc⟩ ⟨ak, an, az, ap, am, ac⟩ V9.out.at' A9.out.at').mono ?_
  rintro e W10 ⟨rfl, hB⟩
  rw [cmpV_self]
  have O10 := Lib.hid (O9.out.below hB)
  clear hB O9 A9 V9 c0 c1 c2 c3 e0 e1 e2 e3
  have hq2 := HQ2.out
  go_wp2_with fail
  go_ret
  exact ⟨rfl, O10.out.b⟩
end Go.Proofs.YtbmfclankoblfaaDoor

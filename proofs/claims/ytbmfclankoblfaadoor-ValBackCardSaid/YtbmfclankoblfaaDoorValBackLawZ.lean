/- The walk of ValBack. -/
import Derived.Test.YtbmfclankoblfaaDoorValKindsLawZ
set_option linter.unusedSimpArgs false
set_option linter.unusedVariables false
namespace Go.Proofs.YtbmfclankoblfaaDoor
open Go Go.RowKit Go.Shelf

/-- the same, of values that ValOf makes -/
theorem same_iff {a b : V} (ha : a.ok = true) (hb : b.ok = true) : (cmpV 1 a b == 0) = true ↔ a = b := by
  rw [beq_iff_eq]
  exact ⟨cmpV_eq 1 a b (ok_deep ha) (ok_deep hb), fun h => by rw [h]; exact cmpV_self 1 b⟩
theorem bytes_begin {a b : V} (ha : a.ok = true) (hb : b.ok = true) (h : a.bytes <+: b.bytes) : a = b := by
  obtain ⟨r, hr⟩ := h
  have h1 := decV_append a ha r
  have h2 := decV_append b hb []
  rw [List.append_nil, ← hr, h1] at h2
  injection h2 with h2
  exact (Prod.mk.inj h2).1
/-- the test of a beginning, as the law asks it -/
theorem begins_iff (p q : ByteArray) (h : p.size ≤ q.size) : ((q.extract 0 p.size).toList == p.toList) = decide (p.data.toList <+: q.data.toList) := by
  rw [Bool.eq_iff_iff, beq_iff_eq, decide_eq_true_iff, Lib.toList_data, Lib.toList_data, extract_toList', List.drop_zero, Nat.sub_zero, List.prefix_iff_eq_take]
  have : p.data.toList.length = p.size := by simp
  rw [this]
  exact eq_comm

theorem min_cut (s : ByteArray) : ∃ m : Nat, m ≤ s.size ∧ m ≤ 20 ∧ (if (20 : Int) < (s.size : Int) then (20 : Int) else (s.size : Int)) = (m : Int) ∧ min (s.size : Int) 20 = (m : Int) := by
  by_cases h : 20 < s.size
  · exact ⟨20, by omega, by omega, by rw [if_pos (by omega)]; rfl, by omega⟩
  · exact ⟨s.size, by omega, by omega, by rw [if_neg (by omega)], by omega⟩

set_option maxHeartbeats 2000000 in
set_option maxRecDepth 100000 in
theorem valBack_walk (x : Raw) (hx : x.fine) (p : Option Addr) (c : Nat) (y : Raw) (hy : y.fine) (p' : Option Addr) (c' : Nat) (s : ByteArray) (hs : s.size ≤ maxLen) (t : ByteArray) (ht : t.size ≤ maxLen) (ea : Addr) (w : World) (hT : Tabs w) (hE : errLies ea w)
    (hL : Lies w (.slice p x.l.length c) x.l.length 3 (rawsCells x.l)) (hL' : Lies w (.slice p' y.l.length c') y.l.length 3 (rawsCells y.l)) :
    Calls Tryd.prog 3 #[rawV x p c, rawV y p' c', .string s, .string t] w fun e w' => e = .returned (.bool true) ∧ Below w.heap.size w w' := by
  have O0 := (Ok.alloc (Ok.alloc (ea := ea) (w := w) ⟨hT, hE, Below.refl _ _⟩ (.cells (rawA x p c) 24)) (.cells (rawA y p' c') 24))
  have R0 := (RawBox.new w hx hL).alloc (.cells (rawA y p' c') 24)
  have Q0 := RawBox.new (w.alloc (.cells (rawA x p c) 24)) hy (hL'.below ((Below.refl _ _).alloc (Nat.le_refl _) _))
  have hbx : ∀ z : Raw, z.fine → True := fun _ _ => trivial
  have oka := valOf_ok x
  have okb := valOf_ok y
  have hla := bytes_len oka
  have hlb := bytes_len okb
  obtain ⟨a, ha⟩ : ∃ a, a = valOf x := ⟨_, rfl⟩
  obtain ⟨b, hb⟩ : ∃ b, b = valOf y := ⟨_, rfl⟩
  have hofa := fun W => valOf_any x hx p c W
  have hofb := fun W => valOf_any y hy p' c' W
  unfold valOfPost at hofa hofb
  rw [← ha] at hofa oka hla
  rw [← hb] at hofb okb hlb
  obtain ⟨P, hP⟩ : ∃ P : ByteArray, P = ⟨a.bytes.toArray⟩ := ⟨_, rfl⟩
  obtain ⟨Q, hQ⟩ : ∃ Q : ByteArray, Q = ⟨b.bytes.toArray⟩ := ⟨_, rfl⟩
  have hPl : P.data.toList = a.bytes := by rw [hP]
  have hQl : Q.data.toList = b.bytes := by rw [hQ]
  have hPz : P.size = a.bytes.length := by rw [hP]; exact ba_size _
  have hQz : Q.size = b.bytes.length := by rw [hQ]; exact ba_size _
  have enca : ∀ W y, VAt 1 W a y → Tabs W → Calls Tryd.prog 12 #[y.v] W fun e w' => e = .returned (.tuple #[.string P, .int .i64 0]) ∧ Below W.heap.size W w' := fun W y h ht => by rw [hP]; exact encode_ok h ht oka
  have encb : ∀ W y, VAt 1 W b y → Tabs W → Calls Tryd.prog 12 #[y.v] W fun e w' => e = .returned (.tuple #[.string Q, .int .i64 0]) ∧ Below W.heap.size W w' := fun W y h ht => by rw [hQ]; exact encode_ok h ht okb
  obtain ⟨m, hm1, hm2, hm3, hm4⟩ := min_cut s
  obtain ⟨n, hn1, hn2, hn3, hn4⟩ := min_cut t
  have hms : (s.extract 0 m).size = m := by rw [ByteArray.size_extract]; omega
  have hdec : decV ((((s.extract 0 m) ++ P) ++ (t.extract 0 n)).data.toList.drop m) = .ok (a, a.bytes.length) := by
    have e1 : (((s.extract 0 m) ++ P) ++ (t.extract 0 n)).data.toList = (s.extract 0 m).data.toList ++ (a.bytes ++ (t.extract 0 n).data.toList) := by
      rw [← hPl]; simp [ByteArray.data_append]
    have e2 : (s.extract 0 m).data.toList.length = m := by rw [text_len, hms]
    rw [e1, List.drop_append_of_le_length (by omega), List.drop_of_length_le (by omega), List.nil_append]
    exact decV_append a oka _
  have hbig : (((s.extract 0 m) ++ P) ++ (t.extract 0 n)).size ≤ 9223372036854775807 := by
    rw [ByteArray.size_append, ByteArray.size_append, hms, ByteArray.size_extract]; omega
  have hpos : m ≤ (((s.extract 0 m) ++ P) ++ (t.extract 0 n)).size := by
    rw [ByteArray.size_append, ByteArray.size_append, hms]; omega
  have hbeg := fun h => begins_iff P Q h
  rw [hPl, hQl] at hbeg
  have hsame := same_iff oka okb
  have hpre : (decide (a.bytes <+: b.bytes)) = (cmpV 1 a b == 0) := by
    rw [Bool.eq_iff_iff, decide_eq_true_iff, hsame]
    exact ⟨bytes_begin oka okb, fun h => by rw [h]; exact List.prefix_refl _⟩
  have hshort : P.size ≤ Q.size ∨ (cmpV 1 a b == 0) = false := by
    rcases Nat.lt_or_ge Q.size P.size with h | h
    · right
      rw [Bool.eq_false_iff, Ne, hsame]
      rintro rfl
      omega
    · exact .inl h
  rw [hpre] at hbeg
  have hcmp := fun (W : World) (u v : It) (h : VAt 1 W a u) (h' : VAt 1 W b v) => refSame_any 1 a b u v W h h'
  have hself := fun (W : World) (u v : It) (h : VAt 1 W a u) (h' : VAt 1 W a v) => refSame_any 1 a a u v W h h'
  generalize (cmpV 1 a b == 0) = same at hbeg hshort hcmp
  rw [← hPz] at hdec hla
  rw [← hQz] at hlb
  clear hP hQ hPl hQl hPz hQz hT hE hL hL' ha hb hbx oka okb hpre hsame hs ht
  have HOFA := Lib.hid hofa
  have HOFB := Lib.hid hofb
  have ENCA := Lib.hid enca
  have ENCB := Lib.hid encb
  have HDEC := Lib.hid hdec
  have HBIG := Lib.hid hbig
  have HPOS := Lib.hid hpos
  have HBEG := Lib.hid hbeg
  have HCMP := Lib.hid hcmp
  have HSELF := Lib.hid hself
  have HSHORT := Lib.hid hshort
  have HMS := Lib.hid hms
  clear hofa hofb enca encb hdec hbig hpos hbeg hcmp hself hshort hms
  obtain ⟨hl1, hl2⟩ := hla
  obtain ⟨hl3, hl4⟩ := hlb
  have h01 : w.heap.size ≠ w.heap.size + 1 := by omega
  go_enter Tryd.func3, Tryd.ntmps3
  go_wp2_with fail
  refine (awake_any ea _ O0.t O0.e).mono ?_
  rintro e W1 ⟨rfl, hB⟩
  have O1 := O0.below hB
  have R1 := R0.below hB
  have Q1 := Q0.below hB
  rw [World.size_alloc] at Q1
  clear hB O0 R0 Q0
  obtain ⟨r0, r1, r2, r3⟩ := R1.facts
  have Q1 := Lib.hid Q1
  go_wp2_with fail
  refine (HOFA.out _ R1.lies).mono ?_
  rintro e W2 ⟨⟨ak, an, az, ap, am, ac⟩, rfl, hv, hB, _⟩
  have A2 := VAtBox.new hv
  have O2 := (O1.below hB).alloc (.cells #[.int .i64 ak, .int .i64 an, .string az, .slice ap am ac] 28)
  have q2 := (Q1.out.below hB).alloc (.cells #[.int .i64 ak, .int .i64 an, .string az, .slice ap am ac] 28)
  clear hB O1 R1 r0 r1 r2 r3 hv Q1
  obtain ⟨r0, r1, r2, r3⟩ := q2.facts
  have A2 := Lib.hid A2
  have O2 := Lib.hid O2
  have Q2 := Lib.hid q2
  clear q2
  go_wp2_with fail
  generalize W2.alloc (.cells #[.int .i64 ak, .int .i64 an, .string az, .slice ap am ac] 28) = U2 at A2 O2 Q2 r0 r1 r2 r3 ⊢
  generalize W2.heap.size = ba at A2 ⊢
  refine (HOFB.out _ Q2.out.lies).mono ?_
  rintro e W3 ⟨⟨bk, bn, bz, bp, bm, bc⟩, rfl, hv, hB, _⟩
  have B3 := VAtBox.new hv
  have O3 := (O2.out.below hB).alloc (.cells #[.int .i64 bk, .int .i64 bn, .string bz, .slice bp bm bc] 28)
  have A3 := (A2.out.below hB).alloc (.cells #[.int .i64 bk, .int .i64 bn, .string bz, .slice bp bm bc] 28)
  clear hB O2 A2 r0 r1 r2 r3 hv Q2
  obtain ⟨⟨c0, c1, c2, c3⟩, _⟩ := A3.box.facts
  have A3 := Lib.hid A3
  have O3 := Lib.hid O3
  have B3 := Lib.hid B3
  go_wp2_with fail
  generalize W3.alloc (.cells #[.int .i64 bk, .int .i64 bn, .string bz, .slice bp bm bc] 28) = U3 at A3 O3 B3 c0 c1 c2 c3 ⊢
  generalize W3.heap.size = bb at B3 ⊢
  refine (ENCA.out _ ⟨ak, an, az, ap, am, ac⟩ A3.out.at' O3.out.t).mono ?_
  rintro e W4 ⟨rfl, hB⟩
  have O4 := Lib.hid (O3.out.below hB)
  have A4 := Lib.hid (A3.out.below hB)
  have b4 := B3.out.below hB
  clear hB O3 A3 B3 c0 c1 c2 c3
  obtain ⟨⟨c0, c1, c2, c3⟩, _⟩ := b4.box.facts
  have B4 := Lib.hid b4
  clear b4
  go_wp2_with fail
  refine (ENCB.out _ ⟨bk, bn, bz, bp, bm, bc⟩ B4.out.at' O4.out.t).mono ?_
  rintro e W5 ⟨rfl, hB⟩
  have O5 := Lib.hid (O4.out.below hB)
  have A5 := Lib.hid (A4.out.below hB)
  have B5 := Lib.hid (B4.out.below hB)
  clear hB O4 A4 B4 c0 c1 c2 c3
  go_wp2_with fail
  refine (decode_some HBIG.out HPOS.out HDEC.out O5.out.t O5.out.e).mono ?_
  rintro e W6 ⟨⟨uk, un, us, up, um, uc⟩, rfl, hv, hB⟩
  have U6 := VAtBox.new hv
  have O6 := Lib.hid ((O5.out.below hB).alloc (.cells #[.int .i64 uk, .int .i64 un, .string us, .slice up um uc] 28))
  have A6 := Lib.hid ((A5.out.below hB).alloc (.cells #[.int .i64 uk, .int .i64 un, .string us, .slice up um uc] 28))
  have B6 := Lib.hid ((B5.out.below hB).alloc (.cells #[.int .i64 uk, .int .i64 un, .string us, .slice up um uc] 28))
  have U6 := Lib.hid U6
  clear hB hv O5 A5 B5
  rcases Nat.lt_or_ge Q.size P.size with hpq | hpq
  · have hsm : same = false := HSHORT.out.resolve_left (by omega)
    subst hsm
    have d1 : decide (P.size ≤ Q.size) = false := decide_eq_false (by omega)
    obtain ⟨⟨c0, c1, c2, c3⟩, _⟩ := A6.out.box.facts
    obtain ⟨⟨e0, e1, e2, e3⟩, _⟩ := B6.out.box.facts
    go_wp2_with fail
    refine (HCMP.out _ ⟨ak, an, az, ap, am, ac⟩ ⟨bk, bn, bz, bp, bm, bc⟩ A6.out.at' B6.out.at').mono ?_
    rintro e W7 ⟨rfl, hB⟩
    clear c0 c1 c2 c3 e0 e1 e2 e3
    have O7 := Lib.hid (O6.out.below hB)
    have a7 := A6.out.below hB
    have u7 := U6.out.below hB
    obtain ⟨⟨c0, c1, c2, c3⟩, _⟩ := a7.box.facts
    obtain ⟨⟨e0, e1, e2, e3⟩, _⟩ := u7.box.facts
    have A7 := Lib.hid a7
    have U7 := Lib.hid u7
    clear hB O6 A6 B6 U6 a7 u7
    go_wp2_with fail
    refine (HSELF.out _ ⟨uk, un, us, up, um, uc⟩ ⟨ak, an, az, ap, am, ac⟩ U7.out.at' A7.out.at').mono ?_
    rintro e W8 ⟨rfl, hB⟩
    rw [cmpV_self]
    have O8 := Lib.hid (O7.out.below hB)
    clear hB O7 A7 U7 c0 c1 c2 c3 e0 e1 e2 e3
    go_wp2_with fail
    go_ret
    exact ⟨rfl, O8.out.b⟩
  · have hbeg := HBEG.out hpq
    have d1 : decide (P.size ≤ Q.size) = true := decide_eq_true hpq
    have hmn : min (P.size : Int) (Q.size : Int) = (P.size : Int) := by omega
    have hmn2 : (if (Q.size : Int) < (P.size : Int) then (Q.size : Int) else (P.size : Int)) = (P.size : Int) := by rw [if_neg (by omega)]
    have hmn3 : (P.size : Int) ≤ (Q.size : Int) := by omega
    obtain ⟨⟨c0, c1, c2, c3⟩, _⟩ := A6.out.box.facts
    obtain ⟨⟨e0, e1, e2, e3⟩, _⟩ := B6.out.box.facts
    go_wp2_with fail
    refine (HCMP.out _ ⟨ak, an, az, ap, am, ac⟩ ⟨bk, bn, bz, bp, bm, bc⟩ A6.out.at' B6.out.at').mono ?_
    rintro e W7 ⟨rfl, hB⟩
    clear c0 c1 c2 c3 e0 e1 e2 e3
    have O7 := Lib.hid (O6.out.below hB)
    have a7 := A6.out.below hB
    have u7 := U6.out.below hB
    obtain ⟨⟨c0, c1, c2, c3⟩, _⟩ := a7.box.facts
    obtain ⟨⟨e0, e1, e2, e3⟩, _⟩ := u7.box.facts
    have A7 := Lib.hid a7
    have U7 := Lib.hid u7
    clear hB O6 A6 B6 U6 a7 u7
    go_wp2_with fail
    refine (HSELF.out _ ⟨uk, un, us, up, um, uc⟩ ⟨ak, an, az, ap, am, ac⟩ U7.out.at' A7.out.at').mono ?_
    rintro e W8 ⟨rfl, hB⟩
    rw [cmpV_self]
    have O8 := Lib.hid (O7.out.below hB)
    clear hB O7 A7 U7 c0 c1 c2 c3 e0 e1 e2 e3
    go_wp2_with fail
    go_ret
    exact ⟨rfl, O8.out.b⟩
end Go.Proofs.YtbmfclankoblfaaDoor

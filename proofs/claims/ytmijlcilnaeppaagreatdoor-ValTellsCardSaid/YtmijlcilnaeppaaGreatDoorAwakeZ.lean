/- morainelaw03.awake. -/
import Derived.Test.YtmijlcilnaeppaaGreatDoorBun11
import Derived.Test.YtmijlcilnaeppaaGreatDoorBun12
import Derived.Test.YtmijlcilnaeppaaGreatDoorBun13
import Derived.Test.YtmijlcilnaeppaaGreatDoorBun10
import Derived.Test.YtmijlcilnaeppaaGreatDoorBun9
set_option linter.unusedSimpArgs false
set_option linter.unusedVariables false
namespace Go.Proofs.YtmijlcilnaeppaaGreatDoor
open Go Go.RowKit Go.Shelf

/-- what every walk of a law carries along -/
structure Ok (ea : Addr) (w W : World) : Prop where
  t : Tabs W
  e : errLies ea W
  b : Below w.heap.size w W
theorem Ok.below {ea : Addr} {w W W' : World} (h : Ok ea w W) (hb : Below W.heap.size W W') : Ok ea w W' := ⟨h.t.below hb, h.e.below hb, h.b.trans (hb.mono h.b.size)⟩
theorem Ok.alloc {ea : Addr} {w W : World} (h : Ok ea w W) (o : Obj) : Ok ea w (W.alloc o) := h.below ((Below.refl _ _).alloc (Nat.le_refl _) o)

theorem read_some {s : ByteArray} (hs : s.size ≤ 140737488355327) {p : Nat} (hp : p ≤ s.size) {u : V} {n : Nat} (hr : readV (s.data.toList.drop p) = some (u, n)) {W : World} (hT : Tabs W) :
    Calls Tryz.prog 27 #[.string s, .int .i64 (p : Int)] W fun e W' => ∃ x : It, e = .returned (.tuple #[x.v, .int .i64 ((p : Int) + n), .int .i64 0]) ∧ VAt 1 W' u x ∧ Below W.heap.size W W' :=
  (readTop_in s hs p hp W hT).mono fun e W' h => by
    obtain ⟨hb, h⟩ := h
    rw [if_neg (by omega), Int.toNat_natCast, hr] at h
    obtain ⟨x, h1, h2⟩ := h
    exact ⟨x, h1, h2, hb⟩
theorem read_none {s : ByteArray} (hs : s.size ≤ 140737488355327) {p : Nat} (hp : p ≤ s.size) (hr : readV (s.data.toList.drop p) = none) {W : World} (hT : Tabs W) :
    Calls Tryz.prog 27 #[.string s, .int .i64 (p : Int)] W fun e W' => e = .returned (.tuple #[valV 0 0 ⟨#[]⟩ (.slice none 0 0), .int .i64 (p : Int), .int .i64 30]) ∧ Below W.heap.size W W' :=
  (readTop_in s hs p hp W hT).mono fun e W' h => by
    obtain ⟨hb, h⟩ := h
    rw [if_neg (by omega), Int.toNat_natCast, hr] at h
    exact ⟨h, hb⟩
theorem decode_some {s : ByteArray} (hs : s.size ≤ 9223372036854775807) {p : Nat} (hp : p ≤ s.size) {u : V} {n : Nat} (hr : decV (s.data.toList.drop p) = .ok (u, n)) {ea : Addr} {W : World} (hT : Tabs W) (hE : errLies ea W) :
    Calls Tryz.prog 28 #[.string s, .int .i64 (p : Int)] W fun e W' => ∃ x : It, e = .returned (.tuple #[x.v, .int .i64 ((p : Int) + n), .int .i64 0]) ∧ VAt 1 W' u x ∧ Below W.heap.size W W' :=
  (decode_in s hs p hp ea W hT hE).mono fun e W' h => by
    obtain ⟨hb, h⟩ := h
    rw [if_neg (by omega), Int.toNat_natCast, hr] at h
    obtain ⟨x, h1, h2⟩ := h
    exact ⟨x, h1, h2, hb⟩
theorem decode_err {s : ByteArray} (hs : s.size ≤ 9223372036854775807) {p : Nat} (hp : p ≤ s.size) {n : Int} (hr : decV (s.data.toList.drop p) = .error n) {ea : Addr} {W : World} (hT : Tabs W) (hE : errLies ea W) :
    Calls Tryz.prog 28 #[.string s, .int .i64 (p : Int)] W fun e W' => e = .returned (.tuple #[valV 0 0 ⟨#[]⟩ (.slice none 0 0), .int .i64 0, .int .i64 n]) ∧ Below W.heap.size W W' :=
  (decode_in s hs p hp ea W hT hE).mono fun e W' h => by
    obtain ⟨hb, h⟩ := h
    rw [if_neg (by omega), Int.toNat_natCast, hr] at h
    exact ⟨h, hb⟩
theorem decode_arg {s : ByteArray} {p : Int} (hp : p < 0 ∨ (s.size : Int) < p) {W : World} :
    Calls Tryz.prog 28 #[.string s, .int .i64 p] W fun e W' => e = .returned (.tuple #[valV 0 0 ⟨#[]⟩ (.slice none 0 0), .int .i64 0, .int .i64 2]) ∧ Below W.heap.size W W' :=
  (decode_out s p hp W).mono fun e W' h => by
    obtain ⟨hb, h⟩ := h
    rw [if_pos hp] at h
    exact ⟨h, hb⟩
theorem encode_ok {d : Nat} {v : V} {x : It} {w : World} (hx : VAt d w v x) (hT : Tabs w) (hv : v.ok = true) :
    Calls Tryz.prog 7 #[x.v] w fun e w' => e = .returned (.tuple #[.string ⟨v.bytes.toArray⟩, .int .i64 0]) ∧ Below w.heap.size w w' :=
  (encode_V d v x w hx hT).mono fun e w' h => by
    obtain ⟨h, hb⟩ := h
    rw [hv, if_pos rfl, if_pos rfl] at h
    exact ⟨h, hb⟩
theorem encode_no {d : Nat} {v : V} {x : It} {w : World} (hx : VAt d w v x) (hT : Tabs w) (hv : v.ok = false) :
    Calls Tryz.prog 7 #[x.v] w fun e w' => e = .returned (.tuple #[.string ⟨#[]⟩, .int .i64 30]) ∧ Below w.heap.size w w' :=
  (encode_V d v x w hx hT).mono fun e w' h => by
    obtain ⟨h, hb⟩ := h
    rw [hv, if_neg (by decide), if_neg (by decide)] at h
    exact ⟨h, hb⟩

def fourV : V := .mk 5 0 ⟨#[]⟩ [.mk 1 1 ⟨#[]⟩ [], .mk 2 0 ⟨#[97, 34, 98]⟩ [], .mk 3 7 ⟨#[]⟩ [], .mk 0 0 ⟨#[]⟩ []]
theorem r1 : readV (([91, 49, 32, 34, 97, 92, 34, 98, 34, 32, 64, 55, 32, 45, 93] : List UInt8).drop 0) = some (fourV, 15) := by kernel_rfl
theorem r2 : readV (([120, 45, 53] : List UInt8).drop 1) = some (.mk 1 (-5) ⟨#[]⟩ [], 2) := by kernel_rfl
theorem r3 : readV (([45, 32, 53] : List UInt8).drop 0) = some (.mk 0 0 ⟨#[]⟩ [], 1) := by kernel_rfl
theorem r4 : readV (([48, 48, 55] : List UInt8).drop 0) = some (.mk 1 0 ⟨#[]⟩ [], 1) := by kernel_rfl
theorem r8 : readV (([120] : List UInt8).drop 0) = none := by kernel_rfl
theorem four_ok : fourV.ok = true := by kernel_rfl
theorem four_five : (cmpV 1 fourV (.mk 1 (-5) ⟨#[]⟩ []) == 0) = false := by kernel_rfl

theorem d1 : decV (([] : List UInt8).drop 0) = .error 10 := by
  have h : numL ([] : List UInt8) = none := numL_nil
  unfold decV
  simp only [List.drop_nil]
  rw [h]
theorem d2 : decV (([12] : List UInt8).drop 0) = .error 30 := by
  have h : numL ([12] : List UInt8) = some 6 := numL_of ⟨by decide, by decide⟩ (by rw [show Wire.num 6 = [12] from by kernel_rfl]; exact List.prefix_refl _)
  show decV [12] = _
  unfold decV decIn
  rw [h]
  rfl
theorem num1_bytes : (V.mk 1 1 ⟨#[]⟩ []).bytes = [2, 2] := by kernel_rfl

/-- what every walk has of the world: it began in W0, errors and tables lie -/
theorem vat_box {W : World} {b : Nat} {x : It} (h : VBox W b x.k x.n x.s (.slice x.p x.m x.c)) : True := trivial

theorem Ok.read {ea : Addr} {w W : World} (h : Ok ea w W) {s : ByteArray} (hs : s.size ≤ 140737488355327) {p : Nat} (hp : p ≤ s.size) {u : V} {n : Nat} (hr : readV (s.data.toList.drop p) = some (u, n)) :
    Calls Tryz.prog 27 #[.string s, .int .i64 (p : Int)] W fun e W' => ∃ x : It, e = .returned (.tuple #[x.v, .int .i64 ((p : Int) + n), .int .i64 0]) ∧ VAt 1 W' u x ∧ Below W.heap.size W W' ∧ Ok ea w W' :=
  (read_some hs hp hr h.t).mono fun e W' ⟨x, h1, h2, h3⟩ => ⟨x, h1, h2, h3, h.below h3⟩

/-- the blocks of awake's values: read ones, and the list that is laid out -/
structure Aw (ea : Addr) (w : World) (b1 b4 b27 : Nat) (x1 x4 x27 : It) (W : World) : Prop where
  ok : Ok ea w W
  v1 : VBox W b1 x1.k x1.n x1.s (.slice x1.p x1.m x1.c)
  a1 : VAt 1 W fourV x1
  v4 : VBox W b4 x4.k x4.n x4.s (.slice x4.p x4.m x4.c)
  a4 : VAt 1 W (.mk 1 (-5) ⟨#[]⟩ []) x4
  v27 : VBox W b27 x27.k x27.n x27.s (.slice x27.p x27.m x27.c)
  a27 : VAt 1 W fourV x27
theorem Aw.below {ea : Addr} {w W W' : World} {b1 b4 b27 : Nat} {x1 x4 x27 : It} (h : Aw ea w b1 b4 b27 x1 x4 x27 W) (hb : Below W.heap.size W W') : Aw ea w b1 b4 b27 x1 x4 x27 W' :=
  ⟨h.ok.below hb, h.v1.below hb, h.a1.below hb, h.v4.below hb, h.a4.below hb, h.v27.below hb, h.a27.below hb⟩

set_option maxHeartbeats 8000000 in
set_option maxRecDepth 100000 in
theorem awake_any (ea : Addr) (w : World) (hT : Tabs w) (hE : errLies ea w) :
    Calls Tryz.prog 4 #[] w fun e w' => e = .returned (.bool true) ∧ Below w.heap.size w w' := by
  have O0 : Ok ea w w := ⟨hT, hE, Below.refl _ _⟩
  clear hT hE
  go_enter Tryz.func4, Tryz.ntmps4
  go_wp2_with fail
  refine (O0.read (s := ⟨#[91, 49, 32, 34, 97, 92, 34, 98, 34, 32, 64, 55, 32, 45, 93]⟩) (by decide) (p := 0) (by decide) r1).mono ?_
  rintro e W1 ⟨⟨xk, xn, xs, xp, xm, xc⟩, rfl, hA1, hB1, O1⟩
  have V1 := VBox.new W1 xk xn xs (.slice xp xm xc)
  have A1 := hA1.below ((Below.refl _ W1).alloc (Nat.le_refl _) (.cells #[.int .i64 xk, .int .i64 xn, .string xs, .slice xp xm xc] 30))
  have O1 := O1.alloc (.cells #[.int .i64 xk, .int .i64 xn, .string xs, .slice xp xm xc] 30)
  clear hB1 hA1 O0
  go_wp2_with fail
  generalize W1.alloc (.cells #[.int .i64 xk, .int .i64 xn, .string xs, .slice xp xm xc] 30) = U1 at V1 A1 O1 ⊢
  generalize W1.heap.size = b1 at V1 ⊢
  refine (O1.read (s := ⟨#[120, 45, 53]⟩) (by decide) (p := 1) (by decide) r2).mono ?_
  rintro e W2 ⟨⟨yk, yn, ys, yp, ym, yc⟩, rfl, hA2, hB2, O2⟩
  have V1 := (V1.below hB2).alloc (.cells #[.int .i64 yk, .int .i64 yn, .string ys, .slice yp ym yc] 30)
  have A1 := (A1.below hB2).below ((Below.refl _ W2).alloc (Nat.le_refl _) (.cells #[.int .i64 yk, .int .i64 yn, .string ys, .slice yp ym yc] 30))
  have V4 := VBox.new W2 yk yn ys (.slice yp ym yc)
  have A4 := hA2.below ((Below.refl _ W2).alloc (Nat.le_refl _) (.cells #[.int .i64 yk, .int .i64 yn, .string ys, .slice yp ym yc] 30))
  have O2 := O2.alloc (.cells #[.int .i64 yk, .int .i64 yn, .string ys, .slice yp ym yc] 30)
  clear hB2 hA2 O1
  go_wp2_with fail
  generalize W2.alloc (.cells #[.int .i64 yk, .int .i64 yn, .string ys, .slice yp ym yc] 30) = U2 at V1 A1 V4 A4 O2 ⊢
  generalize W2.heap.size = b4 at V4 ⊢
  refine (O2.read (s := ⟨#[45, 32, 53]⟩) (by decide) (p := 0) (by decide) r3).mono ?_
  rintro e W3 ⟨⟨zk, zn, zs, zp, zm, zc⟩, rfl, hA, hB, O3⟩
  have V1 := (V1.below hB).alloc (.cells #[.int .i64 zk, .int .i64 zn, .string zs, .slice zp zm zc] 30)
  have V4 := (V4.below hB).alloc (.cells #[.int .i64 zk, .int .i64 zn, .string zs, .slice zp zm zc] 30)
  have A1 := (A1.below hB).below ((Below.refl _ W3).alloc (Nat.le_refl _) (.cells #[.int .i64 zk, .int .i64 zn, .string zs, .slice zp zm zc] 30))
  have A4 := (A4.below hB).below ((Below.refl _ W3).alloc (Nat.le_refl _) (.cells #[.int .i64 zk, .int .i64 zn, .string zs, .slice zp zm zc] 30))
  have O3 := O3.alloc (.cells #[.int .i64 zk, .int .i64 zn, .string zs, .slice zp zm zc] 30)
  clear hB hA O2
  go_wp2_with fail
  generalize W3.alloc (.cells #[.int .i64 zk, .int .i64 zn, .string zs, .slice zp zm zc] 30) = U3 at V1 A1 V4 A4 O3 ⊢
  generalize W3.heap.size = c3
  refine (O3.read (s := ⟨#[48, 48, 55]⟩) (by decide) (p := 0) (by decide) r4).mono ?_
  rintro e W4 ⟨⟨zk, zn, zs, zp, zm, zc⟩, rfl, hA, hB, O4⟩
  have V1 := (V1.below hB).alloc (.cells #[.int .i64 zk, .int .i64 zn, .string zs, .slice zp zm zc] 30)
  have V4 := (V4.below hB).alloc (.cells #[.int .i64 zk, .int .i64 zn, .string zs, .slice zp zm zc] 30)
  have A1 := (A1.below hB).below ((Below.refl _ W4).alloc (Nat.le_refl _) (.cells #[.int .i64 zk, .int .i64 zn, .string zs, .slice zp zm zc] 30))
  have A4 := (A4.below hB).below ((Below.refl _ W4).alloc (Nat.le_refl _) (.cells #[.int .i64 zk, .int .i64 zn, .string zs, .slice zp zm zc] 30))
  have O4 := O4.alloc (.cells #[.int .i64 zk, .int .i64 zn, .string zs, .slice zp zm zc] 30)
  clear hB hA O3
  go_wp2_with fail
  generalize W4.alloc (.cells #[.int .i64 zk, .int .i64 zn, .string zs, .slice zp zm zc] 30) = U4 at V1 A1 V4 A4 O4 ⊢
  generalize W4.heap.size = c4
  refine (encode_ok (d := 1) (v := .mk 1 1 ⟨#[]⟩ []) (x := ⟨1, 1, ⟨#[]⟩, none, 0, 0⟩) (vat_nil 1 _ (flat_fine (by kernel_rfl)) rfl) O4.t (by kernel_rfl)).mono ?_
  rintro e W5 ⟨rfl, hB⟩
  rw [num1_bytes]
  have V1 := V1.below hB
  have V4 := V4.below hB
  have A1 := A1.below hB
  have A4 := A4.below hB
  have O5 := O4.below hB
  clear hB O4
  go_wp2_with fail
  refine (decode_err (s := ⟨#[]⟩) (by decide) (p := 0) (by decide) d1 O5.t O5.e).mono ?_
  rintro e W6 ⟨rfl, hB⟩
  have O6 := (O5.below hB).alloc (.cells #[.int .i64 0, .int .i64 0, .string ⟨#[]⟩, .slice none 0 0] 30)
  have V1 := (V1.below hB).alloc (.cells #[.int .i64 0, .int .i64 0, .string ⟨#[]⟩, .slice none 0 0] 30)
  have V4 := (V4.below hB).alloc (.cells #[.int .i64 0, .int .i64 0, .string ⟨#[]⟩, .slice none 0 0] 30)
  have A1 := (A1.below hB).below ((Below.refl _ W6).alloc (Nat.le_refl _) (.cells #[.int .i64 0, .int .i64 0, .string ⟨#[]⟩, .slice none 0 0] 30))
  have A4 := (A4.below hB).below ((Below.refl _ W6).alloc (Nat.le_refl _) (.cells #[.int .i64 0, .int .i64 0, .string ⟨#[]⟩, .slice none 0 0] 30))
  clear hB O5
  go_wp2_with fail
  generalize W6.alloc (.cells #[.int .i64 0, .int .i64 0, .string ⟨#[]⟩, .slice none 0 0] 30) = U6 at V1 A1 V4 A4 O6 ⊢
  generalize W6.heap.size = c6
  refine (decode_err (s := ⟨#[12]⟩) (by decide) (p := 0) (by decide) d2 O6.t O6.e).mono ?_
  rintro e W7 ⟨rfl, hB⟩
  have O7 := (O6.below hB).alloc (.cells #[.int .i64 0, .int .i64 0, .string ⟨#[]⟩, .slice none 0 0] 30)
  have V1 := (V1.below hB).alloc (.cells #[.int .i64 0, .int .i64 0, .string ⟨#[]⟩, .slice none 0 0] 30)
  have V4 := (V4.below hB).alloc (.cells #[.int .i64 0, .int .i64 0, .string ⟨#[]⟩, .slice none 0 0] 30)
  have A1 := (A1.below hB).below ((Below.refl _ W7).alloc (Nat.le_refl _) (.cells #[.int .i64 0, .int .i64 0, .string ⟨#[]⟩, .slice none 0 0] 30))
  have A4 := (A4.below hB).below ((Below.refl _ W7).alloc (Nat.le_refl _) (.cells #[.int .i64 0, .int .i64 0, .string ⟨#[]⟩, .slice none 0 0] 30))
  clear hB O6
  go_wp2_with fail
  generalize W7.alloc (.cells #[.int .i64 0, .int .i64 0, .string ⟨#[]⟩, .slice none 0 0] 30) = U7 at V1 A1 V4 A4 O7 ⊢
  generalize W7.heap.size = c7
  refine (read_none (s := ⟨#[120]⟩) (by decide) (p := 0) (by decide) r8 O7.t).mono ?_
  rintro e W8 ⟨rfl, hB⟩
  have O8 := (O7.below hB).alloc (.cells #[.int .i64 0, .int .i64 0, .string ⟨#[]⟩, .slice none 0 0] 30)
  have V1 := (V1.below hB).alloc (.cells #[.int .i64 0, .int .i64 0, .string ⟨#[]⟩, .slice none 0 0] 30)
  have V4 := (V4.below hB).alloc (.cells #[.int .i64 0, .int .i64 0, .string ⟨#[]⟩, .slice none 0 0] 30)
  have A1 := (A1.below hB).below ((Below.refl _ W8).alloc (Nat.le_refl _) (.cells #[.int .i64 0, .int .i64 0, .string ⟨#[]⟩, .slice none 0 0] 30))
  have A4 := (A4.below hB).below ((Below.refl _ W8).alloc (Nat.le_refl _) (.cells #[.int .i64 0, .int .i64 0, .string ⟨#[]⟩, .slice none 0 0] 30))
  clear hB O7
  go_wp2_with fail
  generalize W8.alloc (.cells #[.int .i64 0, .int .i64 0, .string ⟨#[]⟩, .slice none 0 0] 30) = U8 at V1 A1 V4 A4 O8 ⊢
  generalize W8.heap.size = c8
  refine (decode_arg (s := ⟨#[]⟩) (p := 1) (.inr (by decide))).mono ?_
  rintro e W9 ⟨rfl, hB⟩
  have O9 := (O8.below hB).alloc (.cells #[.int .i64 0, .int .i64 0, .string ⟨#[]⟩, .slice none 0 0] 30)
  have V1 := (V1.below hB).alloc (.cells #[.int .i64 0, .int .i64 0, .string ⟨#[]⟩, .slice none 0 0] 30)
  have V4 := (V4.below hB).alloc (.cells #[.int .i64 0, .int .i64 0, .string ⟨#[]⟩, .slice none 0 0] 30)
  have A1 := (A1.below hB).below ((Below.refl _ W9).alloc (Nat.le_refl _) (.cells #[.int .i64 0, .int .i64 0, .string ⟨#[]⟩, .slice none 0 0] 30))
  have A4 := (A4.below hB).below ((Below.refl _ W9).alloc (Nat.le_refl _) (.cells #[.int .i64 0, .int .i64 0, .string ⟨#[]⟩, .slice none 0 0] 30))
  clear hB O8
  have hb2 : Below (W9.alloc (.cells #[.int .i64 0, .int .i64 0, .string ⟨#[]⟩, .slice none 0 0] 30)).heap.size (W9.alloc (.cells #[.int .i64 0, .int .i64 0, .string ⟨#[]⟩, .slice none 0 0] 30)) (((W9.alloc (.cells #[.int .i64 0, .int .i64 0, .string ⟨#[]⟩, .slice none 0 0] 30)).alloc (.cells #[.int .i64 1, .int .i64 1, .string ⟨#[]⟩, .slice none 0 0, .int .i64 2, .int .i64 0, .string ⟨#[97, 34, 98]⟩, .slice none 0 0, .int .i64 3, .int .i64 7, .string ⟨#[]⟩, .slice none 0 0, .int .i64 0, .int .i64 0, .string ⟨#[]⟩, .slice none 0 0] 30)).alloc (.cells #[.int .i64 5, .int .i64 0, .string ⟨#[]⟩, .slice (some ⟨W9.heap.size + 1, 0, none⟩) 4 4] 30)) := ((Below.refl _ _).alloc (Nat.le_refl _) _).alloc (by simp) _
  have hn : Bx (((W9.alloc (.cells #[.int .i64 0, .int .i64 0, .string ⟨#[]⟩, .slice none 0 0] 30)).alloc (.cells #[.int .i64 1, .int .i64 1, .string ⟨#[]⟩, .slice none 0 0, .int .i64 2, .int .i64 0, .string ⟨#[97, 34, 98]⟩, .slice none 0 0, .int .i64 3, .int .i64 7, .string ⟨#[]⟩, .slice none 0 0, .int .i64 0, .int .i64 0, .string ⟨#[]⟩, .slice none 0 0] 30)).alloc (.cells #[.int .i64 5, .int .i64 0, .string ⟨#[]⟩, .slice (some ⟨W9.heap.size + 1, 0, none⟩) 4 4] 30)) (W9.heap.size + 1) 30 #[.int .i64 1, .int .i64 1, .string ⟨#[]⟩, .slice none 0 0, .int .i64 2, .int .i64 0, .string ⟨#[97, 34, 98]⟩, .slice none 0 0, .int .i64 3, .int .i64 7, .string ⟨#[]⟩, .slice none 0 0, .int .i64 0, .int .i64 0, .string ⟨#[]⟩, .slice none 0 0] := by
    have := (Bx.new (W9.alloc (.cells #[.int .i64 0, .int .i64 0, .string ⟨#[]⟩, .slice none 0 0] 30)) 30 #[.int .i64 1, .int .i64 1, .string ⟨#[]⟩, .slice none 0 0, .int .i64 2, .int .i64 0, .string ⟨#[97, 34, 98]⟩, .slice none 0 0, .int .i64 3, .int .i64 7, .string ⟨#[]⟩, .slice none 0 0, .int .i64 0, .int .i64 0, .string ⟨#[]⟩, .slice none 0 0]).alloc (.cells #[.int .i64 5, .int .i64 0, .string ⟨#[]⟩, .slice (some ⟨W9.heap.size + 1, 0, none⟩) 4 4] 30)
    rwa [World.size_alloc] at this
  have hf : VBox (((W9.alloc (.cells #[.int .i64 0, .int .i64 0, .string ⟨#[]⟩, .slice none 0 0] 30)).alloc (.cells #[.int .i64 1, .int .i64 1, .string ⟨#[]⟩, .slice none 0 0, .int .i64 2, .int .i64 0, .string ⟨#[97, 34, 98]⟩, .slice none 0 0, .int .i64 3, .int .i64 7, .string ⟨#[]⟩, .slice none 0 0, .int .i64 0, .int .i64 0, .string ⟨#[]⟩, .slice none 0 0] 30)).alloc (.cells #[.int .i64 5, .int .i64 0, .string ⟨#[]⟩, .slice (some ⟨W9.heap.size + 1, 0, none⟩) 4 4] 30)) (W9.heap.size + 1 + 1) 5 0 ⟨#[]⟩ (.slice (some ⟨W9.heap.size + 1, 0, none⟩) 4 4) := by
    have := VBox.new ((W9.alloc (.cells #[.int .i64 0, .int .i64 0, .string ⟨#[]⟩, .slice none 0 0] 30)).alloc (.cells #[.int .i64 1, .int .i64 1, .string ⟨#[]⟩, .slice none 0 0, .int .i64 2, .int .i64 0, .string ⟨#[97, 34, 98]⟩, .slice none 0 0, .int .i64 3, .int .i64 7, .string ⟨#[]⟩, .slice none 0 0, .int .i64 0, .int .i64 0, .string ⟨#[]⟩, .slice none 0 0] 30)) 5 0 ⟨#[]⟩ (.slice (some ⟨W9.heap.size + 1, 0, none⟩) 4 4)
    rwa [World.size_alloc, World.size_alloc] at this
  have haw : Aw ea w b1 b4 (W9.heap.size + 1 + 1) ⟨xk, xn, xs, xp, xm, xc⟩ ⟨yk, yn, ys, yp, ym, yc⟩ ⟨5, 0, ⟨#[]⟩, some ⟨W9.heap.size + 1, 0, none⟩, 4, 4⟩ (((W9.alloc (.cells #[.int .i64 0, .int .i64 0, .string ⟨#[]⟩, .slice none 0 0] 30)).alloc (.cells #[.int .i64 1, .int .i64 1, .string ⟨#[]⟩, .slice none 0 0, .int .i64 2, .int .i64 0, .string ⟨#[97, 34, 98]⟩, .slice none 0 0, .int .i64 3, .int .i64 7, .string ⟨#[]⟩, .slice none 0 0, .int .i64 0, .int .i64 0, .string ⟨#[]⟩, .slice none 0 0] 30)).alloc (.cells #[.int .i64 5, .int .i64 0, .string ⟨#[]⟩, .slice (some ⟨W9.heap.size + 1, 0, none⟩) 4 4] 30)) := by
    refine ⟨O9.below hb2, V1.below hb2, A1.below hb2, V4.below hb2, A4.below hb2, hf, ?_⟩
    refine vat_list (us := [.mk 1 1 ⟨#[]⟩ [], .mk 2 0 ⟨#[97, 34, 98]⟩ [], .mk 3 7 ⟨#[]⟩ [], .mk 0 0 ⟨#[]⟩ []]) (ys := [⟨1, 1, ⟨#[]⟩, none, 0, 0⟩, ⟨2, 0, ⟨#[97, 34, 98]⟩, none, 0, 0⟩, ⟨3, 7, ⟨#[]⟩, none, 0, 0⟩, ⟨0, 0, ⟨#[]⟩, none, 0, 0⟩]) (by decide) rfl (hn.lies rfl rfl) ?_
    · intro i h h'
      match i, h with
      | 0, _ => exact ⟨by kernel_rfl, rfl, rfl, rfl, rfl⟩
      | 1, _ => exact ⟨by kernel_rfl, rfl, rfl, rfl, rfl⟩
      | 2, _ => exact ⟨by kernel_rfl, rfl, rfl, rfl, rfl⟩
      | 3, _ => exact ⟨by kernel_rfl, rfl, rfl, rfl, rfl⟩
  obtain ⟨⟨p0, p1, p2, p3⟩, _⟩ := haw.v1.facts
  clear V1 A1 V4 A4 O9 hb2 hn hf
  go_wp2_with fail
  refine (refSame_any 1 fourV fourV ⟨xk, xn, xs, xp, xm, xc⟩ ⟨5, 0, ⟨#[]⟩, some ⟨W9.heap.size + 1, 0, none⟩, 4, 4⟩ _ haw.a1 haw.a27).mono ?_
  rintro e X1 ⟨rfl, hB⟩
  have haw := haw.below hB
  clear hB p0 p1 p2 p3
  rw [cmpV_self]
  generalize W9.heap.size + 1 + 1 = b27 at haw ⊢
  generalize W9.heap.size + 1 = b16 at haw ⊢
  obtain ⟨⟨p0, p1, p2, p3⟩, _⟩ := haw.v4.facts
  have HAW := Lib.hid haw
  clear haw
  go_wp2_with fail
  refine (refSame_any 1 (.mk 1 (-5) ⟨#[]⟩ []) (.mk 1 (-5) ⟨#[]⟩ []) ⟨yk, yn, ys, yp, ym, yc⟩ ⟨1, -5, ⟨#[]⟩, none, 0, 0⟩ _ HAW.out.a4 (vat_nil 1 _ (flat_fine (by kernel_rfl)) rfl)).mono ?_
  rintro e X2 ⟨rfl, hB⟩
  have haw := HAW.out.below hB
  clear hB p0 p1 p2 p3 HAW
  rw [cmpV_self]
  obtain ⟨⟨p0, p1, p2, p3⟩, _⟩ := haw.v27.facts
  have HAW := Lib.hid haw
  clear haw
  go_wp2_with fail
  refine (right_V 1 fourV ⟨5, 0, ⟨#[]⟩, some ⟨b16, 0, none⟩, 4, 4⟩ _ HAW.out.a27 HAW.out.ok.t).mono ?_
  rintro e X3 ⟨rfl, hB⟩
  have haw := HAW.out.below hB
  clear hB p0 p1 p2 p3 HAW
  rw [four_ok]
  have HAW := Lib.hid haw
  clear haw
  go_wp2_with fail
  refine (right_V 1 (.mk 0 1 ⟨#[]⟩ []) ⟨0, 1, ⟨#[]⟩, none, 0, 0⟩ _ (vat_nil 1 _ ⟨by decide, by decide, by decide, by decide⟩ rfl) HAW.out.ok.t).mono ?_
  rintro e X4 ⟨rfl, hB⟩
  have haw := HAW.out.below hB
  clear hB HAW
  rw [show (V.mk 0 1 ⟨#[]⟩ []).ok = false from by kernel_rfl]
  obtain ⟨⟨p0, p1, p2, p3⟩, _⟩ := haw.v27.facts
  obtain ⟨⟨q0, q1, q2, q3⟩, _⟩ := haw.v1.facts
  have HAW := Lib.hid haw
  clear haw
  go_wp2_with fail
  refine (same_any 1 fourV fourV ⟨5, 0, ⟨#[]⟩, some ⟨b16, 0, none⟩, 4, 4⟩ ⟨xk, xn, xs, xp, xm, xc⟩ _ HAW.out.a27 HAW.out.a1).mono ?_
  rintro e X5 ⟨rfl, hB⟩
  have haw := HAW.out.below hB
  clear hB HAW p0 p1 p2 p3 q0 q1 q2 q3
  rw [cmpV_self]
  obtain ⟨⟨p0, p1, p2, p3⟩, _⟩ := haw.v27.facts
  obtain ⟨⟨q0, q1, q2, q3⟩, _⟩ := haw.v4.facts
  have HAW := Lib.hid haw
  clear haw
  go_wp2_with fail
  refine (same_any 1 fourV (.mk 1 (-5) ⟨#[]⟩ []) ⟨5, 0, ⟨#[]⟩, some ⟨b16, 0, none⟩, 4, 4⟩ ⟨yk, yn, ys, yp, ym, yc⟩ _ HAW.out.a27 HAW.out.a4).mono ?_
  rintro e X6 ⟨rfl, hB⟩
  have haw := HAW.out.below hB
  clear hB HAW p0 p1 p2 p3 q0 q1 q2 q3
  rw [four_five]
  have HAW := Lib.hid haw
  clear haw
  go_wp2_with fail
  go_ret
  exact ⟨rfl, HAW.out.ok.b⟩
end Go.Proofs.YtmijlcilnaeppaaGreatDoor

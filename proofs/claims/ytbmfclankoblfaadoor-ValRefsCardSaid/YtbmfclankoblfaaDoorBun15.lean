/- Texts put together: ValMath, ValCutLaw, RowOpensV, ValKindsLaw, ValBackLaw. -/
import Derived.Test.YtbmfclankoblfaaDoorAwakeZ
import Derived.Test.YtbmfclankoblfaaDoorBun14
import Derived.Test.YtbmfclankoblfaaDoorBun4
import Derived.Deep.Strs
/- Bytes of values: lengths, what they begin with. -/
set_option linter.unusedSimpArgs false
set_option linter.unusedVariables false
namespace Go.Proofs.YtbmfclankoblfaaDoor
open Go Go.RowKit Go.Shelf

theorem num_pos (n : Int) : 0 < (Wire.num n).length := by
  rw [Wire.num_length]
  exact List.length_pos_iff.2 (Wire.groups_ne n)
theorem flat_bytes_len {u : V} (h : u.flatOk = true) : 0 < u.bytesIn.length ∧ u.bytesIn.length ≤ 10020 := by
  have hp := flatOk_parts h
  refine ⟨?_, flatBytes_len ⟨by omega, by omega⟩ ⟨by omega, by omega⟩ (by omega)⟩
  unfold V.bytesIn flatBytes
  rw [List.length_append]
  have := num_pos u.k
  omega
theorem flatMap_len : ∀ us : List V, (∀ u ∈ us, u.flatOk = true) → (us.flatMap V.bytesIn).length ≤ us.length * 10020
  | [], _ => by simp
  | u :: us, h => by
    rw [List.flatMap_cons, List.length_append, List.length_cons, Nat.succ_mul]
    have h1 := (flat_bytes_len (h u List.mem_cons_self)).2
    have h2 := flatMap_len us (fun v hv => h v (List.mem_cons_of_mem _ hv))
    omega
theorem bytes_len {v : V} (h : v.ok = true) : 0 < v.bytes.length ∧ v.bytes.length ≤ 150000 := by
  by_cases h5 : v.k = 5
  · obtain ⟨e, hl, hi⟩ := ok_list h h5
    unfold V.bytes
    rw [if_pos h5, List.length_append, List.length_append]
    have h1 := num_pos 5
    have h2 := Wire.num_len 5 ⟨by decide, by decide⟩
    have h3 := Wire.num_len (v.l.length : Int) ⟨by omega, by omega⟩
    have h4 := flatMap_len v.l (fun u hu => (okIn_parts (hi u hu)).2)
    omega
  · have := flat_bytes_len (ok_flat h h5)
    unfold V.bytes
    rw [if_neg h5]
    omega
theorem bytes_head (v : V) : ∃ r, v.bytes = Wire.num v.k ++ r := by
  unfold V.bytes
  split
  · rename_i h5
    rw [h5]
    exact ⟨_, List.append_assoc _ _ _⟩
  · exact ⟨_, rfl⟩
theorem bytes_num {v : V} (h : v.k = 1 ∨ v.k = 3 ∨ v.k = 4) : v.bytes = Wire.num v.k ++ Wire.num v.n := by
  unfold V.bytes V.bytesIn flatBytes
  rw [if_neg (by omega), if_pos h]
theorem decV_bad : decV ([10, 2, 10, 0] : List UInt8) = .error 30 := by
  have n5 : Wire.num 5 = [10] := by kernel_rfl
  have n1 : Wire.num 1 = [2] := by kernel_rfl
  have h1 : numL ([10, 2, 10, 0] : List UInt8) = some 5 := numL_of ⟨by decide, by decide⟩ (by rw [n5]; exact ⟨_, rfl⟩)
  have h2 : numL ([2, 10, 0] : List UInt8) = some 1 := numL_of ⟨by decide, by decide⟩ (by rw [n1]; exact ⟨_, rfl⟩)
  have h3 : numL ([10, 0] : List UInt8) = some 5 := numL_of ⟨by decide, by decide⟩ (by rw [n5]; exact ⟨_, rfl⟩)
  rw [decV_list h1, n5]
  show (match decList [2, 10, 0] with | .error e => _ | .ok (us, r) => _) = _
  have h4 : decIn ([10, 0] : List UInt8) = .error 30 := by
    unfold decIn
    rw [h3]
    rfl
  have h5 : decList ([2, 10, 0] : List UInt8) = .error 30 := by
    unfold decList
    rw [h2]
    show (if _ then _ else _) = _
    rw [if_neg (by decide), n1]
    show (match decMany 1 [10, 0] with | .error e => _ | .ok (us, r) => _) = _
    rw [decMany_succ, h4]
  rw [h5]
theorem decV_bad' : decV ((ByteArray.extract ⟨#[10, 2, 0]⟩ 0 2 ++ (⟨#[10, 0]⟩ : ByteArray)).data.toList.drop 0) = .error 30 := by
  rw [show (ByteArray.extract ⟨#[10, 2, 0]⟩ 0 2 ++ (⟨#[10, 0]⟩ : ByteArray)).data.toList.drop 0 = [10, 2, 10, 0] from by kernel_rfl]
  exact decV_bad
theorem cut_size : (ByteArray.extract ⟨#[10, 2, 0]⟩ 0 2 ++ (⟨#[10, 0]⟩ : ByteArray)).size ≤ 9223372036854775807 := by decide
theorem listNil_ok : (V.mk 5 0 ⟨#[]⟩ [.mk 5 0 ⟨#[]⟩ []]).ok = false := by kernel_rfl
theorem oneNil_ok : (V.mk 5 0 ⟨#[]⟩ [.mk 0 0 ⟨#[]⟩ []]).ok = true := by kernel_rfl
theorem oneNil_bytes : (V.mk 5 0 ⟨#[]⟩ [.mk 0 0 ⟨#[]⟩ []]).bytes = [10, 2, 0] := by kernel_rfl
end Go.Proofs.YtbmfclankoblfaaDoor

/- The walks of ValCut and ValKinds. -/
set_option linter.unusedSimpArgs false
set_option linter.unusedVariables false
namespace Go.Proofs.YtbmfclankoblfaaDoor
open Go Go.RowKit Go.Shelf

abbrev rawV (x : Raw) (p : Option Addr) (c : Nat) : Value := .agg #[.int .i64 x.k, .int .i64 x.n, .string x.s, .slice p x.l.length c]
abbrev rawA (x : Raw) (p : Option Addr) (c : Nat) : Array Value := #[.int .i64 x.k, .int .i64 x.n, .string x.s, .slice p x.l.length c]
/-- raw numbers lie in a block, and their list where it did -/
structure RawBox (W : World) (b : Nat) (x : Raw) (p : Option Addr) (c : Nat) : Prop where
  fine : x.fine
  box : Bx W b 24 (rawA x p c)
  lies : Lies W (.slice p x.l.length c) x.l.length 3 (rawsCells x.l)
theorem RawBox.below {W W' : World} {b : Nat} {x : Raw} {p : Option Addr} {c : Nat} (h : RawBox W b x p c) (hb : Below W.heap.size W W') : RawBox W' b x p c := ⟨h.fine, h.box.below hb, h.lies.below hb⟩
theorem RawBox.alloc {W : World} {b : Nat} {x : Raw} {p : Option Addr} {c : Nat} (h : RawBox W b x p c) (o : Obj) : RawBox (W.alloc o) b x p c := h.below ((Below.refl _ _).alloc (Nat.le_refl _) o)
theorem RawBox.new (W : World) {x : Raw} (hx : x.fine) {p : Option Addr} {c : Nat} (hL : Lies W (.slice p x.l.length c) x.l.length 3 (rawsCells x.l)) : RawBox (W.alloc (.cells (rawA x p c) 24)) W.heap.size x p c :=
  ⟨hx, Bx.new _ _ _, hL.below ((Below.refl _ _).alloc (Nat.le_refl _) _)⟩
theorem RawBox.facts {W : World} {b : Nat} {x : Raw} {p : Option Addr} {c : Nat} (h : RawBox W b x p c) :
    W.cell? ⟨b, 0, none⟩ = some (.int .i64 x.k) ∧ W.cell? ⟨b, 1, none⟩ = some (.int .i64 x.n) ∧ W.cell? ⟨b, 2, none⟩ = some (.string x.s) ∧ W.cell? ⟨b, 3, none⟩ = some (.slice p x.l.length c) :=
  ⟨h.box.at 0 rfl, h.box.at 1 rfl, h.box.at 2 rfl, h.box.at 3 rfl⟩
/-- a value in a box, and all that it leads to -/
structure VAtBox (W : World) (b : Nat) (v : V) (x : It) : Prop where
  box : VBox W b x.k x.n x.s (.slice x.p x.m x.c)
  at' : VAt 1 W v x
theorem VAtBox.below {W W' : World} {b : Nat} {v : V} {x : It} (h : VAtBox W b v x) (hb : Below W.heap.size W W') : VAtBox W' b v x := ⟨h.box.below hb, h.at'.below hb⟩
theorem VAtBox.alloc {W : World} {b : Nat} {v : V} {x : It} (h : VAtBox W b v x) (o : Obj) : VAtBox (W.alloc o) b v x := h.below ((Below.refl _ _).alloc (Nat.le_refl _) o)
theorem VAtBox.new {W : World} {v : V} {x : It} (h : VAt 1 W v x) : VAtBox (W.alloc (.cells #[.int .i64 x.k, .int .i64 x.n, .string x.s, .slice x.p x.m x.c] 28)) W.heap.size v x :=
  ⟨VBox.new _ _ _ _ _, h.below ((Below.refl _ _).alloc (Nat.le_refl _) _)⟩

set_option maxHeartbeats 2000000 in
set_option maxRecDepth 100000 in
theorem valCut_walk (x : Raw) (hx : x.fine) (p : Option Addr) (c : Nat) (at' : Int) (ha1 : -9223372036854775808 ≤ at') (ha2 : at' ≤ 9223372036854775807) (ea : Addr) (w : World) (hT : Tabs w) (hE : errLies ea w) (hL : Lies w (.slice p x.l.length c) x.l.length 3 (rawsCells x.l)) :
    Calls Tryd.prog 8 #[rawV x p c, .int .i64 at'] w fun e w' => e = .returned (.bool true) ∧ Below w.heap.size w w' := by
  have O0 := (Ok.alloc (ea := ea) (w := w) ⟨hT, hE, Below.refl _ _⟩ (.cells (rawA x p c) 24))
  have R0 := RawBox.new w hx hL
  have hok := valOf_ok x
  have hlen := bytes_len hok
  have hpick := fun w => pick_any at' ((valOf x).bytes.length : Int) ha1 ha2 (by omega) (by omega) w
  obtain ⟨k, hk⟩ : ∃ k : Nat, pickI at' ((valOf x).bytes.length : Int) = (k : Int) := ⟨(pickI at' ((valOf x).bytes.length : Int)).toNat, by have := pickI_bd at' ((valOf x).bytes.length : Int) (by omega); omega⟩
  have hkl : k < (valOf x).bytes.length := by have := pickI_bd at' ((valOf x).bytes.length : Int) (by omega); omega
  rw [hk] at hpick
  have hcut := decV_cut (valOf x) hok hkl
  have hvat : ∀ W y, VAt 1 W (valOf x) y → Tabs W → Calls Tryd.prog 12 #[y.v] W fun e w' => e = .returned (.tuple #[.string ⟨(valOf x).bytes.toArray⟩, .int .i64 0]) ∧ Below W.heap.size W w' := fun W y h ht => encode_ok h ht hok
  obtain ⟨s, hs⟩ : ∃ s : ByteArray, s = ⟨(valOf x).bytes.toArray⟩ := ⟨_, rfl⟩
  have hsl : s.data.toList = (valOf x).bytes := by rw [hs]
  have hsz : s.size = (valOf x).bytes.length := by rw [hs]; exact ba_size _
  have hdec : decV ((s.extract 0 k).data.toList.drop 0) = .error 10 := by
    rw [extract_toList', List.drop_zero, List.drop_zero, Nat.sub_zero, hsl]; exact hcut
  rw [← hsz] at hpick hkl hlen
  rw [← hs] at hvat
  clear hs hsl hsz hcut hk hok hT hE hL
  have hxs : (s.extract 0 k).size = k := by rw [ByteArray.size_extract]; omega
  have hxz : (s.extract 0 k).size ≤ 9223372036854775807 := by omega
  obtain ⟨hl1, hl2⟩ := hlen
  have i1 : (0 : Int) ≤ (k : Int) := by omega
  have i2 : (k : Int) ≤ (s.size : Int) := by omega
  have i3 : ((s.size : Int) == 0) = false := beq_eq_false_iff_ne.2 (by omega)
  have HP := Lib.hid hpick
  have HV := Lib.hid hvat
  have HD := Lib.hid hdec
  have HXZ := Lib.hid hxz
  clear hpick hvat hdec hxs hxz
  go_enter Tryd.func8, Tryd.ntmps8
  go_wp2_with fail
  refine (awake_any ea _ O0.t O0.e).mono ?_
  rintro e W1 ⟨rfl, hB⟩
  have O1 := O0.below hB
  have R1 := R0.below hB
  clear hB O0 R0
  obtain ⟨r0, r1, r2, r3⟩ := R1.facts
  go_wp2_with fail
  refine (valOf_any x hx p c _ R1.lies).mono ?_
  rintro e W2 ⟨⟨yk, yn, ys, yp, ym, yc⟩, rfl, hy, hB, _⟩
  have V2 := VAtBox.new hy
  have O2 := (O1.below hB).alloc (.cells #[.int .i64 yk, .int .i64 yn, .string ys, .slice yp ym yc] 28)
  clear hB O1 R1 r0 r1 r2 r3 hy
  obtain ⟨⟨c0, c1, c2, c3⟩, _⟩ := V2.box.facts
  have V2 := Lib.hid V2
  have O2 := Lib.hid O2
  go_wp2_with fail
  refine (HV.out _ ⟨yk, yn, ys, yp, ym, yc⟩ V2.out.at' O2.out.t).mono ?_
  rintro e W3 ⟨rfl, hB⟩
  have O3 := Lib.hid (O2.out.below hB)
  clear hB O2 V2 c0 c1 c2 c3
  go_wp2_with fail
  refine (HP.out _).mono ?_
  rintro e W4 ⟨rfl, rfl⟩
  go_wp2_with fail
  refine (decode_err HXZ.out (p := 0) (Nat.zero_le _) HD.out O3.out.t O3.out.e).mono ?_
  rintro e W5 ⟨rfl, hB⟩
  have zv := (VAtBox.new (x := ⟨0, 0, ⟨#[]⟩, none, 0, 0⟩) (vat_nil 1 W5 (u := .mk 0 0 ⟨#[]⟩ []) (flat_fine (by kernel_rfl)) rfl))
  have hb2 : Below (W5.alloc (.cells #[.int .i64 0, .int .i64 0, .string ⟨#[]⟩, .slice none 0 0] 28)).heap.size (W5.alloc (.cells #[.int .i64 0, .int .i64 0, .string ⟨#[]⟩, .slice none 0 0] 28)) (((W5.alloc (.cells #[.int .i64 0, .int .i64 0, .string ⟨#[]⟩, .slice none 0 0] 28)).alloc (.cells #[.int .i64 5, .int .i64 0, .string ⟨#[]⟩, .slice none 0 0] 28)).alloc (.cells #[.int .i64 5, .int .i64 0, .string ⟨#[]⟩, .slice (some ⟨W5.heap.size + 1, 0, none⟩) 1 1] 28)) := ((Below.refl _ _).alloc (Nat.le_refl _) _).alloc (by simp) _
  have O5 := (((O3.out.below hB).alloc (.cells #[.int .i64 0, .int .i64 0, .string ⟨#[]⟩, .slice none 0 0] 28)).below hb2)
  have Z5 := zv.below hb2
  have hn : Bx (((W5.alloc (.cells #[.int .i64 0, .int .i64 0, .string ⟨#[]⟩, .slice none 0 0] 28)).alloc (.cells #[.int .i64 5, .int .i64 0, .string ⟨#[]⟩, .slice none 0 0] 28)).alloc (.cells #[.int .i64 5, .int .i64 0, .string ⟨#[]⟩, .slice (some ⟨W5.heap.size + 1, 0, none⟩) 1 1] 28)) (W5.heap.size + 1) 28 #[.int .i64 5, .int .i64 0, .string ⟨#[]⟩, .slice none 0 0] := by
    have := (Bx.new (W5.alloc (.cells #[.int .i64 0, .int .i64 0, .string ⟨#[]⟩, .slice none 0 0] 28)) 28 #[.int .i64 5, .int .i64 0, .string ⟨#[]⟩, .slice none 0 0]).alloc (.cells #[.int .i64 5, .int .i64 0, .string ⟨#[]⟩, .slice (some ⟨W5.heap.size + 1, 0, none⟩) 1 1] 28)
    rwa [World.size_alloc] at this
  have hv5 : VAt 1 (((W5.alloc (.cells #[.int .i64 0, .int .i64 0, .string ⟨#[]⟩, .slice none 0 0] 28)).alloc (.cells #[.int .i64 5, .int .i64 0, .string ⟨#[]⟩, .slice none 0 0] 28)).alloc (.cells #[.int .i64 5, .int .i64 0, .string ⟨#[]⟩, .slice (some ⟨W5.heap.size + 1, 0, none⟩) 1 1] 28)) (.mk 5 0 ⟨#[]⟩ [.mk 5 0 ⟨#[]⟩ []]) ⟨5, 0, ⟨#[]⟩, some ⟨W5.heap.size + 1, 0, none⟩, 1, 1⟩ :=
    ⟨⟨by decide, by decide, by decide, by decide⟩, rfl, rfl, rfl, [⟨5, 0, ⟨#[]⟩, none, 0, 0⟩], rfl, hn.lies rfl rfl, fun i h h' => by
      obtain rfl : i = 0 := by simp at h; omega
      exact vat_nil 0 _ (u := .mk 5 0 ⟨#[]⟩ []) ⟨by decide, by decide, by decide, by decide⟩ rfl⟩
  have O5 := Lib.hid O5
  have Z5 := Lib.hid Z5
  have HV5 := Lib.hid hv5
  clear zv hb2 hn hB O3 hv5
  go_wp2_with fail
  refine (encode_no HV5.out O5.out.t listNil_ok).mono ?_
  rintro e W6 ⟨rfl, hB⟩
  have hv6 : VAt 1 (W6.alloc (.cells #[.int .i64 0, .int .i64 0, .string ⟨#[]⟩, .slice none 0 0] 28)) (.mk 5 0 ⟨#[]⟩ [.mk 0 0 ⟨#[]⟩ []]) ⟨5, 0, ⟨#[]⟩, some ⟨W6.heap.size, 0, none⟩, 1, 1⟩ :=
    ⟨⟨by decide, by decide, by decide, by decide⟩, rfl, rfl, rfl, [⟨0, 0, ⟨#[]⟩, none, 0, 0⟩], rfl, (Bx.new W6 28 #[.int .i64 0, .int .i64 0, .string ⟨#[]⟩, .slice none 0 0]).lies rfl rfl, fun i h h' => by
      obtain rfl : i = 0 := by simp at h; omega
      exact vat_nil 0 _ (u := .mk 0 0 ⟨#[]⟩ []) (flat_fine (by kernel_rfl)) rfl⟩
  have O6 := Lib.hid ((O5.out.below hB).alloc (.cells #[.int .i64 0, .int .i64 0, .string ⟨#[]⟩, .slice none 0 0] 28))
  have Z6 := Lib.hid ((Z5.out.below hB).alloc (.cells #[.int .i64 0, .int .i64 0, .string ⟨#[]⟩, .slice none 0 0] 28))
  have HV6 := Lib.hid hv6
  generalize W5.heap.size = z at Z6 ⊢
  clear hB O5 Z5 HV5 hv6
  go_wp2_with fail
  refine (encode_ok HV6.out O6.out.t oneNil_ok).mono ?_
  rintro e W7 ⟨rfl, hB⟩
  rw [oneNil_bytes]
  have O7 := Lib.hid (O6.out.below hB)
  have Z7 := Lib.hid (Z6.out.below hB)
  clear hB O6 Z6 HV6
  go_wp2_with fail
  refine (decode_err cut_size (p := 0) (Nat.zero_le _) decV_bad' O7.out.t O7.out.e).mono ?_
  rintro e W8 ⟨rfl, hB⟩
  have O8 := Lib.hid ((O7.out.below hB).alloc (.cells #[.int .i64 0, .int .i64 0, .string ⟨#[]⟩, .slice none 0 0] 28))
  have z8 := ((Z7.out.below hB).alloc (.cells #[.int .i64 0, .int .i64 0, .string ⟨#[]⟩, .slice none 0 0] 28))
  obtain ⟨⟨c0, c1, c2, c3⟩, _⟩ := z8.box.facts
  have Z8 := Lib.hid z8
  clear hB O7 Z7 z8
  go_wp2_with fail
  refine (refSame_any 1 (.mk 0 0 ⟨#[]⟩ []) (.mk 0 0 ⟨#[]⟩ []) ⟨0, 0, ⟨#[]⟩, none, 0, 0⟩ ⟨0, 0, ⟨#[]⟩, none, 0, 0⟩ _ Z8.out.at' Z8.out.at').mono ?_
  rintro e W9 ⟨rfl, hB⟩
  rw [cmpV_self]
  have O9 := Lib.hid (O8.out.below hB)
  clear hB O8 Z8 c0 c1 c2 c3
  go_wp2_with fail
  go_ret
  exact ⟨rfl, O9.out.b⟩
end Go.Proofs.YtbmfclankoblfaaDoor

/- The arguments of this seat's rows, opened: raw numbers of values. -/
set_option linter.unusedSimpArgs false
set_option linter.unusedVariables false
namespace Go.Proofs.YtbmfclankoblfaaDoor
open Go Go.ChangeShapes Go.WideShapes Go.ChangeAt Go.RowKit Go.ChangeMaps
theorem maxLen_le {n : Nat} (h : n ≤ maxLen) : n ≤ 9223372036854775807 := by unfold maxLen at h; omega
section
variable {H : Type} {enc : TypeId × Value → H} {W : World} {base : Nat} {v : Value} {d : DataW H} {p : List MemPlace}

set_option maxRecDepth 100000 in
theorem rawOne_of_trod {n : Nat} {cs : List Value} {x : DataW H × List MemPlace} (hl : cs.length = 3) (hx : DataW.trod enc Tryd.prog W 0 (fun _ => true) true n 58 cs = some x) :
    ∃ r : RawOne, cs = r.cells ∧ r.fine := by
  obtain ⟨y0, y1, y2, m, rfl, _, t0, t1, t2⟩ := Deep.trod_struct3 Tryd.underlying58 hx
  match cs, hl with
  | [c0, c1, c2], _ =>
    obtain ⟨k, h0, _, b0⟩ := DataW.trod_int Tryd.underlying3 t0
    obtain ⟨n, h1, _, b1⟩ := DataW.trod_int Tryd.underlying3 t1
    obtain ⟨s, h2, _, b2⟩ := DataW.trod_string Tryd.underlying9 t2
    have q1 : Tryd.prog.cellsOf 3 = 1 := by kernel_rfl
    have q2 : Tryd.prog.cellsOf 9 = 1 := by kernel_rfl
    simp only [q1, q2, List.drop, List.take] at h0 h1 h2
    simp only [List.cons.injEq, and_true] at h0 h1 h2
    subst h0 h1 h2
    exact ⟨⟨k, n, s⟩, rfl, bounds_i64 b0, bounds_i64 b1, maxLen_le b2⟩

set_option maxRecDepth 100000 in
theorem openRaw (hv : Value.okWide Tryd.prog W .any base 24 v) (h : DataW.Trod enc Tryd.prog W 0 (fun _ => true) true 24 v d p) (hlt : ∀ x ∈ p, x.block < W.heap.size) :
    ∃ (x : Raw) (b : Option Addr) (c : Nat), v = rawV x b c ∧ x.fine ∧ Lies W (.slice b x.l.length c) x.l.length 3 (rawsCells x.l) := by
  obtain ⟨v0, v1, v2, v3, y0, y1, y2, y3, n, rfl, _, rfl, t0, t1, t2, t3⟩ := Joins.open_agg4 Tryd.underlying24 (by kernel_rfl) (by kernel_rfl) hv h
  obtain ⟨k, h0, _, b0⟩ := DataW.trod_int Tryd.underlying3 t0
  obtain ⟨m, h1, _, b1⟩ := DataW.trod_int Tryd.underlying3 t1
  obtain ⟨s, h2, _, b2⟩ := DataW.trod_string Tryd.underlying9 t2
  simp only [List.cons.injEq, and_true] at h0 h1 h2
  subst h0 h1 h2
  have hs3 : ∃ a len cap, v3 = .slice a len cap := by
    rcases Deep.open_slice Tryd.underlying22 t3 with ⟨hcs, _⟩ | ⟨a, len, cap, _, _, _, _, hcs, _⟩
    · simp at hcs; exact ⟨_, _, _, hcs⟩
    · simp at hcs; exact ⟨_, _, _, hcs⟩
  obtain ⟨a, len, cap, rfl⟩ := hs3
  obtain ⟨b, n', c, xs, e1, e2, e3, e4, e5, e6, _⟩ := open_lies (α := RawOne) 3 RawOne.cells RawOne.fine Tryd.underlying22 (by kernel_rfl) (by decide)
    (fun n cs x hl hx => rawOne_of_trod hl hx) ⟨_, rfl, rfl⟩ (⟨n, t3⟩ : DataW.Trod enc Tryd.prog W 0 (fun _ => true) true 22 (.slice a len cap) y3.1 y3.2) (fun x hx => hlt x (by simp [hx]))
  injection e1 with f1 f2 f3
  subst f1 f2 f3
  subst e2
  exact ⟨⟨k, m, s, xs⟩, a, cap, rfl, ⟨bounds_i64 b0, bounds_i64 b1, maxLen_le b2, maxLen_le (Nat.le_trans e3 e4), e6⟩, e5⟩
end
end Go.Proofs.YtbmfclankoblfaaDoor

/- The walk of ValKinds. -/
set_option linter.unusedSimpArgs false
set_option linter.unusedVariables false
namespace Go.Proofs.YtbmfclankoblfaaDoor
open Go Go.RowKit Go.Shelf

/-- up to the value's bytes: the same for all laws that begin so -/
theorem reads_kind {v : V} (h : v.ok = true) {s : ByteArray} (hs : s.data.toList = v.bytes) : readsNum s 0 v.k := by
  obtain ⟨r, hr⟩ := bytes_head v
  refine ⟨by decide, by omega, ?_, ?_⟩
  · have := ok_fine h
    exact ⟨this.k.1, this.k.2⟩
  · rw [show (0 : Int).toNat = 0 from rfl, List.drop_zero, hs, hr]
    exact List.prefix_append _ _
theorem reads_num {v : V} (h : v.ok = true) (hk : v.k = 1 ∨ v.k = 3 ∨ v.k = 4) {s : ByteArray} (hs : s.data.toList = v.bytes) : readsNum s (((Wire.num v.k).length : Nat) : Int) v.n ∧ (Wire.num v.k).length + (Wire.num v.n).length = s.size := by
  have hb := bytes_num hk
  have hsz : s.size = v.bytes.length := by rw [← hs]; simp
  rw [hb, List.length_append] at hsz
  refine ⟨⟨by omega, by omega, ?_, ?_⟩, hsz.symm⟩
  · have := ok_fine h
    exact ⟨this.n.1, this.n.2⟩
  · rw [Int.toNat_natCast, hs, hb, List.drop_left]
    exact List.prefix_refl _

set_option maxHeartbeats 2000000 in
set_option maxRecDepth 100000 in
theorem valKinds_walk (x : Raw) (hx : x.fine) (p : Option Addr) (c : Nat) (ea : Addr) (w : World) (hT : Tabs w) (hE : errLies ea w) (hL : Lies w (.slice p x.l.length c) x.l.length 3 (rawsCells x.l)) :
    Calls Tryd.prog 9 #[rawV x p c] w fun e w' => e = .returned (.bool true) ∧ Below w.heap.size w w' := by
  have O0 := (Ok.alloc (ea := ea) (w := w) ⟨hT, hE, Below.refl _ _⟩ (.cells (rawA x p c) 24))
  have R0 := RawBox.new w hx hL
  have hok := valOf_ok x
  have hlen := bytes_len hok
  obtain ⟨v, hv⟩ : ∃ v, v = valOf x := ⟨_, rfl⟩
  have hof := fun W => valOf_any x hx p c W
  unfold valOfPost at hof
  rw [← hv] at hof hok hlen
  obtain ⟨s, hs⟩ : ∃ s : ByteArray, s = ⟨v.bytes.toArray⟩ := ⟨_, rfl⟩
  have hsl : s.data.toList = v.bytes := by rw [hs]
  have hsz : s.size = v.bytes.length := by rw [hs]; exact ba_size _
  have hvat : ∀ W y, VAt 1 W v y → Tabs W → Calls Tryd.prog 12 #[y.v] W fun e w' => e = .returned (.tuple #[.string s, .int .i64 0]) ∧ Below W.heap.size W w' := fun W y h ht => by rw [hs]; exact encode_ok h ht hok
  have hs9 : s.size ≤ 9223372036854775807 := by omega
  have hk0 := fun W (hE : errLies ea W) => readNum_some hs9 (reads_kind hok hsl) hE
  have hn0 := fun W (hk : v.k = 1 ∨ v.k = 3 ∨ v.k = 4) (hE : errLies ea W) => readNum_some hs9 (reads_num hok hk hsl).1 hE
  have hlast := fun (hk : v.k = 1 ∨ v.k = 3 ∨ v.k = 4) => (reads_num hok hk hsl).2
  have hkl : (Wire.num v.k).length ≤ 10 := Wire.num_len _ ⟨(ok_fine hok).k.1, (ok_fine hok).k.2⟩
  clear hs hsl hsz hok hT hE hL hlen hv
  generalize (Wire.num v.k).length = lk at hk0 hn0 hlast hkl
  generalize (Wire.num v.n).length = ln at hn0 hlast
  simp only [Int.zero_add] at hk0
  obtain ⟨vk, vn, vs, vl⟩ := v
  simp only [V.k, V.n] at hk0 hn0 hlast
  have HOF := Lib.hid hof
  have HV := Lib.hid hvat
  have HK := Lib.hid hk0
  have HN := Lib.hid hn0
  have HLAST := Lib.hid hlast
  clear hvat hk0 hn0 hlast hof
  go_enter Tryd.func9, Tryd.ntmps9
  go_wp2_with fail
  refine (awake_any ea _ O0.t O0.e).mono ?_
  rintro e W1 ⟨rfl, hB⟩
  have O1 := O0.below hB
  have R1 := R0.below hB
  clear hB O0 R0
  obtain ⟨r0, r1, r2, r3⟩ := R1.facts
  go_wp2_with fail
  refine (HOF.out _ R1.lies).mono ?_
  rintro e W2 ⟨⟨yk, yn, ys, yp, ym, yc⟩, rfl, hy, hB, _⟩
  have e1 : yk = vk := hy.top.2.1
  have e2 : yn = vn := hy.top.2.2.1
  subst e1 e2
  have V2 := VAtBox.new hy
  have O2 := (O1.below hB).alloc (.cells #[.int .i64 yk, .int .i64 yn, .string ys, .slice yp ym yc] 28)
  clear hB O1 R1 r0 r1 r2 r3 hy
  obtain ⟨⟨c0, c1, c2, c3⟩, _⟩ := V2.box.facts
  have V2 := Lib.hid V2
  have O2 := Lib.hid O2
  go_wp2_with fail
  generalize W2.heap.size = bv at V2 ⊢
  refine (HV.out _ ⟨yk, yn, ys, yp, ym, yc⟩ V2.out.at' O2.out.t).mono ?_
  rintro e W3 ⟨rfl, hB⟩
  have O3 := Lib.hid (O2.out.below hB)
  have V3 := Lib.hid (V2.out.below hB)
  clear hB O2 V2 c0 c1 c2 c3
  go_wp2_with fail
  refine (HK.out _ O3.out.e).mono ?_
  rintro e W4 ⟨rfl, hB⟩
  have O4 := Lib.hid (O3.out.below hB)
  have v4 := V3.out.below hB
  obtain ⟨⟨c0, c1, c2, c3⟩, _⟩ := v4.box.facts
  have V4 := Lib.hid v4
  clear hB O3 V3 v4
  by_cases h1 : yk = 1
  · subst h1
    have hl : ((lk : Int) + (ln : Int) == (s.size : Int)) = true := by rw [beq_iff_eq]; have := HLAST.out (by simp); omega
    go_wp2_with fail
    refine (HN.out _ (by simp) O4.out.e).mono ?_
    rintro e W5 ⟨rfl, hB⟩
    have O5 := Lib.hid (O4.out.below hB)
    have v5 := V4.out.below hB
    clear c0 c1 c2 c3
    obtain ⟨⟨c0, c1, c2, c3⟩, _⟩ := v5.box.facts
    clear hB O4 V4 v5
    go_wp2_with fail
    go_ret
    exact ⟨rfl, O5.out.b⟩
  · by_cases h3 : yk = 3
    · subst h3
      have hl : ((lk : Int) + (ln : Int) == (s.size : Int)) = true := by rw [beq_iff_eq]; have := HLAST.out (by simp); omega
      go_wp2_with fail
      refine (HN.out _ (by simp) O4.out.e).mono ?_
      rintro e W5 ⟨rfl, hB⟩
      have O5 := Lib.hid (O4.out.below hB)
      have v5 := V4.out.below hB
      clear c0 c1 c2 c3
      obtain ⟨⟨c0, c1, c2, c3⟩, _⟩ := v5.box.facts
      clear hB O4 V4 v5
      go_wp2_with fail
      go_ret
      exact ⟨rfl, O5.out.b⟩
    · by_cases h4 : yk = 4
      · subst h4
        have hl : ((lk : Int) + (ln : Int) == (s.size : Int)) = true := by rw [beq_iff_eq]; have := HLAST.out (by simp); omega
        go_wp2_with fail
        refine (HN.out _ (by simp) O4.out.e).mono ?_
        rintro e W5 ⟨rfl, hB⟩
        have O5 := Lib.hid (O4.out.below hB)
        have v5 := V4.out.below hB
        clear c0 c1 c2 c3
        obtain ⟨⟨c0, c1, c2, c3⟩, _⟩ := v5.box.facts
        clear hB O4 V4 v5
        go_wp2_with fail
        go_ret
        exact ⟨rfl, O5.out.b⟩
      · have d1 : (yk != 1) = true := by rw [bne_iff_ne]; exact h1
        have d3 : (yk != 3) = true := by rw [bne_iff_ne]; exact h3
        have d4 : (yk != 4) = true := by rw [bne_iff_ne]; exact h4
        clear h1 h3 h4
        go_wp2_with fail
        go_ret
        exact ⟨rfl, O4.out.b⟩
end Go.Proofs.YtbmfclankoblfaaDoor

/- The walk of ValBack. -/
set_option linter.unusedSimpArgs false
set_option linter.unusedVariables false
namespace Go.Proofs.YtbmfclankoblfaaDoor
open Go Go.RowKit Go.Shelf

/-- the same, of values that ValOf makes -/
theorem same_iff {a b : V} (ha : a.ok = true) (hb : b.ok = true) : (cmpV 1 a b == 0) = true ↔ a = b := by
  rw [beq_iff_eq]
  exact ⟨cmpV_eq 1 a b (ok_deep ha) (ok_deep hb), fun h => by rw [h]; exact cmpV_self 1 b⟩
theorem bytes_begin {a b : V} (ha : a.ok = true) (hb : b.ok = true) (h : a.bytes <+: b.bytes) : a = b := by
  obtain ⟨r, hr⟩ := h
  have h1 := decV_append a ha r
  have h2 := decV_append b hb []
  rw [List.append_nil, ← hr, h1] at h2
  injection h2 with h2
  exact (Prod.mk.inj h2).1
/-- the test of a beginning, as the law asks it -/
theorem begins_iff (p q : ByteArray) (h : p.size ≤ q.size) : ((q.extract 0 p.size).toList == p.toList) = decide (p.data.toList <+: q.data.toList) := by
  rw [Bool.eq_iff_iff, beq_iff_eq, decide_eq_true_iff, Lib.toList_data, Lib.toList_data, extract_toList', List.drop_zero, Nat.sub_zero, List.prefix_iff_eq_take]
  have : p.data.toList.length = p.size := by simp
  rw [this]
  exact eq_comm

theorem min_cut (s : ByteArray) : ∃ m : Nat, m ≤ s.size ∧ m ≤ 20 ∧ (if (20 : Int) < (s.size : Int) then (20 : Int) else (s.size : Int)) = (m : Int) ∧ min (s.size : Int) 20 = (m : Int) := by
  by_cases h : 20 < s.size
  · exact ⟨20, by omega, by omega, by rw [if_pos (by omega)]; rfl, by omega⟩
  · exact ⟨s.size, by omega, by omega, by rw [if_neg (by omega)], by omega⟩

set_option maxHeartbeats 2000000 in
set_option maxRecDepth 100000 in
theorem valBack_walk (x : Raw) (hx : x.fine) (p : Option Addr) (c : Nat) (y : Raw) (hy : y.fine) (p' : Option Addr) (c' : Nat) (s : ByteArray) (hs : s.size ≤ maxLen) (t : ByteArray) (ht : t.size ≤ maxLen) (ea : Addr) (w : World) (hT : Tabs w) (hE : errLies ea w)
    (hL : Lies w (.slice p x.l.length c) x.l.length 3 (rawsCells x.l)) (hL' : Lies w (.slice p' y.l.length c') y.l.length 3 (rawsCells y.l)) :
    Calls Tryd.prog 3 #[rawV x p c, rawV y p' c', .string s, .string t] w fun e w' => e = .returned (.bool true) ∧ Below w.heap.size w w' := by
  have O0 := (Ok.alloc (Ok.alloc (ea := ea) (w := w) ⟨hT, hE, Below.refl _ _⟩ (.cells (rawA x p c) 24)) (.cells (rawA y p' c') 24))
  have R0 := (RawBox.new w hx hL).alloc (.cells (rawA y p' c') 24)
  have Q0 := RawBox.new (w.alloc (.cells (rawA x p c) 24)) hy (hL'.below ((Below.refl _ _).alloc (Nat.le_refl _) _))
  have hbx : ∀ z : Raw, z.fine → True := fun _ _ => trivial
  have oka := valOf_ok x
  have okb := valOf_ok y
  have hla := bytes_len oka
  have hlb := bytes_len okb
  obtain ⟨a, ha⟩ : ∃ a, a = valOf x := ⟨_, rfl⟩
  obtain ⟨b, hb⟩ : ∃ b, b = valOf y := ⟨_, rfl⟩
  have hofa := fun W => valOf_any x hx p c W
  have hofb := fun W => valOf_any y hy p' c' W
  unfold valOfPost at hofa hofb
  rw [← ha] at hofa oka hla
  rw [← hb] at hofb okb hlb
  obtain ⟨P, hP⟩ : ∃ P : ByteArray, P = ⟨a.bytes.toArray⟩ := ⟨_, rfl⟩
  obtain ⟨Q, hQ⟩ : ∃ Q : ByteArray, Q = ⟨b.bytes.toArray⟩ := ⟨_, rfl⟩
  have hPl : P.data.toList = a.bytes := by rw [hP]
  have hQl : Q.data.toList = b.bytes := by rw [hQ]
  have hPz : P.size = a.bytes.length := by rw [hP]; exact ba_size _
  have hQz : Q.size = b.bytes.length := by rw [hQ]; exact ba_size _
  have enca : ∀ W y, VAt 1 W a y → Tabs W → Calls Tryd.prog 12 #[y.v] W fun e w' => e = .returned (.tuple #[.string P, .int .i64 0]) ∧ Below W.heap.size W w' := fun W y h ht => by rw [hP]; exact encode_ok h ht oka
  have encb : ∀ W y, VAt 1 W b y → Tabs W → Calls Tryd.prog 12 #[y.v] W fun e w' => e = .returned (.tuple #[.string Q, .int .i64 0]) ∧ Below W.heap.size W w' := fun W y h ht => by rw [hQ]; exact encode_ok h ht okb
  obtain ⟨m, hm1, hm2, hm3, hm4⟩ := min_cut s
  obtain ⟨n, hn1, hn2, hn3, hn4⟩ := min_cut t
  have hms : (s.extract 0 m).size = m := by rw [ByteArray.size_extract]; omega
  have hdec : decV ((((s.extract 0 m) ++ P) ++ (t.extract 0 n)).data.toList.drop m) = .ok (a, a.bytes.length) := by
    have e1 : (((s.extract 0 m) ++ P) ++ (t.extract 0 n)).data.toList = (s.extract 0 m).data.toList ++ (a.bytes ++ (t.extract 0 n).data.toList) := by
      rw [← hPl]; simp [ByteArray.data_append]
    have e2 : (s.extract 0 m).data.toList.length = m := by rw [text_len, hms]
    rw [e1, List.drop_append_of_le_length (by omega), List.drop_of_length_le (by omega), List.nil_append]
    exact decV_append a oka _
  have hbig : (((s.extract 0 m) ++ P) ++ (t.extract 0 n)).size ≤ 9223372036854775807 := by
    rw [ByteArray.size_append, ByteArray.size_append, hms, ByteArray.size_extract]; omega
  have hpos : m ≤ (((s.extract 0 m) ++ P) ++ (t.extract 0 n)).size := by
    rw [ByteArray.size_append, ByteArray.size_append, hms]; omega
  have hbeg := fun h => begins_iff P Q h
  rw [hPl, hQl] at hbeg
  have hsame := same_iff oka okb
  have hpre : (decide (a.bytes <+: b.bytes)) = (cmpV 1 a b == 0) := by
    rw [Bool.eq_iff_iff, decide_eq_true_iff, hsame]
    exact ⟨bytes_begin oka okb, fun h => by rw [h]; exact List.prefix_refl _⟩
  have hshort : P.size ≤ Q.size ∨ (cmpV 1 a b == 0) = false := by
    rcases Nat.lt_or_ge Q.size P.size with h | h
    · right
      rw [Bool.eq_false_iff, Ne, hsame]
      rintro rfl
      omega
    · exact .inl h
  rw [hpre] at hbeg
  have hcmp := fun (W : World) (u v : It) (h : VAt 1 W a u) (h' : VAt 1 W b v) => refSame_any 1 a b u v W h h'
  have hself := fun (W : World) (u v : It) (h : VAt 1 W a u) (h' : VAt 1 W a v) => refSame_any 1 a a u v W h h'
  generalize (cmpV 1 a b == 0) = same at hbeg hshort hcmp
  rw [← hPz] at hdec hla
  rw [← hQz] at hlb
  clear hP hQ hPl hQl hPz hQz hT hE hL hL' ha hb hbx oka okb hpre hsame hs ht
  have HOFA := Lib.hid hofa
  have HOFB := Lib.hid hofb
  have ENCA := Lib.hid enca
  have ENCB := Lib.hid encb
  have HDEC := Lib.hid hdec
  have HBIG := Lib.hid hbig
  have HPOS := Lib.hid hpos
  have HBEG := Lib.hid hbeg
  have HCMP := Lib.hid hcmp
  have HSELF := Lib.hid hself
  have HSHORT := Lib.hid hshort
  have HMS := Lib.hid hms
  clear hofa hofb enca encb hdec hbig hpos hbeg hcmp hself hshort hms
  obtain ⟨hl1, hl2⟩ := hla
  obtain ⟨hl3, hl4⟩ := hlb
  have h01 : w.heap.size ≠ w.heap.size + 1 := by omega
  go_enter Tryd.func3, Tryd.ntmps3
  go_wp2_with fail
  refine (awake_any ea _ O0.t O0.e).mono ?_
  rintro e W1 ⟨rfl, hB⟩
  have O1 := O0.below hB
  have R1 := R0.below hB
  have Q1 := Q0.below hB
  rw [World.size_alloc] at Q1
  clear hB O0 R0 Q0
  obtain ⟨r0, r1, r2, r3⟩ := R1.facts
  have Q1 := Lib.hid Q1
  go_wp2_with fail
  refine (HOFA.out _ R1.lies).mono ?_
  rintro e W2 ⟨⟨ak, an, az, ap, am, ac⟩, rfl, hv, hB, _⟩
  have A2 := VAtBox.new hv
  have O2 := (O1.below hB).alloc (.cells #[.int .i64 ak, .int .i64 an, .string az, .slice ap am ac] 28)
  have q2 := (Q1.out.below hB).alloc (.cells #[.int .i64 ak, .int .i64 an, .string az, .slice ap am ac] 28)
  clear hB O1 R1 r0 r1 r2 r3 hv Q1
  obtain ⟨r0, r1, r2, r3⟩ := q2.facts
  have A2 := Lib.hid A2
  have O2 := Lib.hid O2
  have Q2 := Lib.hid q2
  clear q2
  go_wp2_with fail
  generalize W2.alloc (.cells #[.int .i64 ak, .int .i64 an, .string az, .slice ap am ac] 28) = U2 at A2 O2 Q2 r0 r1 r2 r3 ⊢
  generalize W2.heap.size = ba at A2 ⊢
  refine (HOFB.out _ Q2.out.lies).mono ?_
  rintro e W3 ⟨⟨bk, bn, bz, bp, bm, bc⟩, rfl, hv, hB, _⟩
  have B3 := VAtBox.new hv
  have O3 := (O2.out.below hB).alloc (.cells #[.int .i64 bk, .int .i64 bn, .string bz, .slice bp bm bc] 28)
  have A3 := (A2.out.below hB).alloc (.cells #[.int .i64 bk, .int .i64 bn, .string bz, .slice bp bm bc] 28)
  clear hB O2 A2 r0 r1 r2 r3 hv Q2
  obtain ⟨⟨c0, c1, c2, c3⟩, _⟩ := A3.box.facts
  have A3 := Lib.hid A3
  have O3 := Lib.hid O3
  have B3 := Lib.hid B3
  go_wp2_with fail
  generalize W3.alloc (.cells #[.int .i64 bk, .int .i64 bn, .string bz, .slice bp bm bc] 28) = U3 at A3 O3 B3 c0 c1 c2 c3 ⊢
  generalize W3.heap.size = bb at B3 ⊢
  refine (ENCA.out _ ⟨ak, an, az, ap, am, ac⟩ A3.out.at' O3.out.t).mono ?_
  rintro e W4 ⟨rfl, hB⟩
  have O4 := Lib.hid (O3.out.below hB)
  have A4 := Lib.hid (A3.out.below hB)
  have b4 := B3.out.below hB
  clear hB O3 A3 B3 c0 c1 c2 c3
  obtain ⟨⟨c0, c1, c2, c3⟩, _⟩ := b4.box.facts
  have B4 := Lib.hid b4
  clear b4
  go_wp2_with fail
  refine (ENCB.out _ ⟨bk, bn, bz, bp, bm, bc⟩ B4.out.at' O4.out.t).mono ?_
  rintro e W5 ⟨rfl, hB⟩
  have O5 := Lib.hid (O4.out.below hB)
  have A5 := Lib.hid (A4.out.below hB)
  have B5 := Lib.hid (B4.out.below hB)
  clear hB O4 A4 B4 c0 c1 c2 c3
  go_wp2_with fail
  refine (decode_some HBIG.out HPOS.out HDEC.out O5.out.t O5.out.e).mono ?_
  rintro e W6 ⟨⟨uk, un, us, up, um, uc⟩, rfl, hv, hB⟩
  have U6 := VAtBox.new hv
  have O6 := Lib.hid ((O5.out.below hB).alloc (.cells #[.int .i64 uk, .int .i64 un, .string us, .slice up um uc] 28))
  have A6 := Lib.hid ((A5.out.below hB).alloc (.cells #[.int .i64 uk, .int .i64 un, .string us, .slice up um uc] 28))
  have B6 := Lib.hid ((B5.out.below hB).alloc (.cells #[.int .i64 uk, .int .i64 un, .string us, .slice up um uc] 28))
  have U6 := Lib.hid U6
  clear hB hv O5 A5 B5
  rcases Nat.lt_or_ge Q.size P.size with hpq | hpq
  · have hsm : same = false := HSHORT.out.resolve_left (by omega)
    subst hsm
    have d1 : decide (P.size ≤ Q.size) = false := decide_eq_false (by omega)
    obtain ⟨⟨c0, c1, c2, c3⟩, _⟩ := A6.out.box.facts
    obtain ⟨⟨e0, e1, e2, e3⟩, _⟩ := B6.out.box.facts
    go_wp2_with fail
    refine (HCMP.out _ ⟨ak, an, az, ap, am, ac⟩ ⟨bk, bn, bz, bp, bm, bc⟩ A6.out.at' B6.out.at').mono ?_
    rintro e W7 ⟨rfl, hB⟩
    clear c0 c1 c2 c3 e0 e1 e2 e3
    have O7 := Lib.hid (O6.out.below hB)
    have a7 := A6.out.below hB
    have u7 := U6.out.below hB
    obtain ⟨⟨c0, c1, c2, c3⟩, _⟩ := a7.box.facts
    obtain ⟨⟨e0, e1, e2, e3⟩, _⟩ := u7.box.facts
    have A7 := Lib.hid a7
    have U7 := Lib.hid u7
    clear hB O6 A6 B6 U6 a7 u7
    go_wp2_with fail
    refine (HSELF.out _ ⟨uk, un, us, up, um, uc⟩ ⟨ak, an, az, ap, am, ac⟩ U7.out.at' A7.out.at').mono ?_
    rintro e W8 ⟨rfl, hB⟩
    rw [cmpV_self]
    have O8 := Lib.hid (O7.out.below hB)
    clear hB O7 A7 U7 c0 c1 c2 c3 e0 e1 e2 e3
    go_wp2_with fail
    go_ret
    exact ⟨rfl, O8.out.b⟩
  · have hbeg := HBEG.out hpq
    have d1 : decide (P.size ≤ Q.size) = true := decide_eq_true hpq
    have hmn : min (P.size : Int) (Q.size : Int) = (P.size : Int) := by omega
    have hmn2 : (if (Q.size : Int) < (P.size : Int) then (Q.size : Int) else (P.size : Int)) = (P.size : Int) := by rw [if_neg (by omega)]
    have hmn3 : (P.size : Int) ≤ (Q.size : Int) := by omega
    obtain ⟨⟨c0, c1, c2, c3⟩, _⟩ := A6.out.box.facts
    obtain ⟨⟨e0, e1, e2, e3⟩, _⟩ := B6.out.box.facts
    go_wp2_with fail
    refine (HCMP.out _ ⟨ak, an, az, ap, am, ac⟩ ⟨bk, bn, bz, bp, bm, bc⟩ A6.out.at' B6.out.at').mono ?_
    rintro e W7 ⟨rfl, hB⟩
    clear c0 c1 c2 c3 e0 e1 e2 e3
    have O7 := Lib.hid (O6.out.below hB)
    have a7 := A6.out.below hB
    have u7 := U6.out.below hB
    obtain ⟨⟨c0, c1, c2, c3⟩, _⟩ := a7.box.facts
    obtain ⟨⟨e0, e1, e2, e3⟩, _⟩ := u7.box.facts
    have A7 := Lib.hid a7
    have U7 := Lib.hid u7
    clear hB O6 A6 B6 U6 a7 u7
    go_wp2_with fail
    refine (HSELF.out _ ⟨uk, un, us, up, um, uc⟩ ⟨ak, an, az, ap, am, ac⟩ U7.out.at' A7.out.at').mono ?_
    rintro e W8 ⟨rfl, hB⟩
    rw [cmpV_self]
    have O8 := Lib.hid (O7.out.below hB)
    clear hB O7 A7 U7 c0 c1 c2 c3 e0 e1 e2 e3
    go_wp2_with fail
    go_ret
    exact ⟨rfl, O8.out.b⟩
end Go.Proofs.YtbmfclankoblfaaDoor

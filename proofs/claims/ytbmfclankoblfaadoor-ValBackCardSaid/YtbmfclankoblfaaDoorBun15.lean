/- Texts put together: ValMath, ValCutLaw, RowOpensV. -/
import Derived.Test.YtbmfclankoblfaaDoorAwakeZ
import Derived.Test.YtbmfclankoblfaaDoorBun14
import Derived.Test.YtbmfclankoblfaaDoorBun4
import Derived.Deep.Strs
/- Bytes of values: lengths, what they begin with. -/
set_option linter.unusedSimpArgs false
set_option linter.unusedVariables false
namespace Go.Proofs.YtbmfclankoblfaaDoor
open Go Go.RowKit Go.Shelf

theorem num_pos (n : Int) : 0 < (Wire.num n).length := by
  rw [Wire.num_length]
  exact List.length_pos_iff.2 (Wire.groups_ne n)
theorem flat_bytes_len {u : V} (h : u.flatOk = true) : 0 < u.bytesIn.length ∧ u.bytesIn.length ≤ 10020 := by
  have hp := flatOk_parts h
  refine ⟨?_, flatBytes_len ⟨by omega, by omega⟩ ⟨by omega, by omega⟩ (by omega)⟩
  unfold V.bytesIn flatBytes
  rw [List.length_append]
  have := num_pos u.k
  omega
theorem flatMap_len : ∀ us : List V, (∀ u ∈ us, u.flatOk = true) → (us.flatMap V.bytesIn).length ≤ us.length * 10020
  | [], _ => by simp
  | u :: us, h => by
    rw [List.flatMap_cons, List.length_append, List.length_cons, Nat.succ_mul]
    have h1 := (flat_bytes_len (h u List.mem_cons_self)).2
    have h2 := flatMap_len us (fun v hv => h v (List.mem_cons_of_mem _ hv))
    omega
theorem bytes_len {v : V} (h : v.ok = true) : 0 < v.bytes.length ∧ v.bytes.length ≤ 150000 := by
  by_cases h5 : v.k = 5
  · obtain ⟨e, hl, hi⟩ := ok_list h h5
    unfold V.bytes
    rw [if_pos h5, List.length_append, List.length_append]
    have h1 := num_pos 5
    have h2 := Wire.num_len 5 ⟨by decide, by decide⟩
    have h3 := Wire.num_len (v.l.length : Int) ⟨by omega, by omega⟩
    have h4 := flatMap_len v.l (fun u hu => (okIn_parts (hi u hu)).2)
    omega
  · have := flat_bytes_len (ok_flat h h5)
    unfold V.bytes
    rw [if_neg h5]
    omega
theorem bytes_head (v : V) : ∃ r, v.bytes = Wire.num v.k ++ r := by
  unfold V.bytes
  split
  · rename_i h5
    rw [h5]
    exact ⟨_, List.append_assoc _ _ _⟩
  · exact ⟨_, rfl⟩
theorem bytes_num {v : V} (h : v.k = 1 ∨ v.k = 3 ∨ v.k = 4) : v.bytes = Wire.num v.k ++ Wire.num v.n := by
  unfold V.bytes V.bytesIn flatBytes
  rw [if_neg (by omega), if_pos h]
theorem decV_bad : decV ([10, 2, 10, 0] : List UInt8) = .error 30 := by
  have n5 : Wire.num 5 = [10] := by kernel_rfl
  have n1 : Wire.num 1 = [2] := by kernel_rfl
  have h1 : numL ([10, 2, 10, 0] : List UInt8) = some 5 := numL_of ⟨by decide, by decide⟩ (by rw [n5]; exact ⟨_, rfl⟩)
  have h2 : numL ([2, 10, 0] : List UInt8) = some 1 := numL_of ⟨by decide, by decide⟩ (by rw [n1]; exact ⟨_, rfl⟩)
  have h3 : numL ([10, 0] : List UInt8) = some 5 := numL_of ⟨by decide, by decide⟩ (by rw [n5]; exact ⟨_, rfl⟩)
  rw [decV_list h1, n5]
  show (match decList [2, 10, 0] with | .error e => _ | .ok (us, r) => _) = _
  have h4 : decIn ([10, 0] : List UInt8) = .error 30 := by
    unfold decIn
    rw [h3]
    rfl
  have h5 : decList ([2, 10, 0] : List UInt8) = .error 30 := by
    unfold decList
    rw [h2]
    show (if _ then _ else _) = _
    rw [if_neg (by decide), n1]
    show (match decMany 1 [10, 0] with | .error e => _ | .ok (us, r) => _) = _
    rw [decMany_succ, h4]
  rw [h5]
theorem decV_bad' : decV ((ByteArray.extract ⟨#[10, 2, 0]⟩ 0 2 ++ (⟨#[10, 0]⟩ : ByteArray)).data.toList.drop 0) = .error 30 := by
  rw [show (ByteArray.extract ⟨#[10, 2, 0]⟩ 0 2 ++ (⟨#[10, 0]⟩ : ByteArray)).data.toList.drop 0 = [10, 2, 10, 0] from by kernel_rfl]
  exact decV_bad
theorem cut_size : (ByteArray.extract ⟨#[10, 2, 0]⟩ 0 2 ++ (⟨#[10, 0]⟩ : ByteArray)).size ≤ 9223372036854775807 := by decide
theorem listNil_ok : (V.mk 5 0 ⟨#[]⟩ [.mk 5 0 ⟨#[]⟩ []]).ok = false := by kernel_rfl
theorem oneNil_ok : (V.mk 5 0 ⟨#[]⟩ [.mk 0 0 ⟨#[]⟩ []]).ok = true := by kernel_rfl
theorem oneNil_bytes : (V.mk 5 0 ⟨#[]⟩ [.mk 0 0 ⟨#[]⟩ []]).bytes = [10, 2, 0] := by kernel_rfl
end Go.Proofs.YtbmfclankoblfaaDoor

/- The walks of ValCut and ValKinds. -/
set_option linter.unusedSimpArgs false
set_option linter.unusedVariables false
namespace Go.Proofs.YtbmfclankoblfaaDoor
open Go Go.RowKit Go.Shelf

abbrev rawV (x : Raw) (p : Option Addr) (c : Nat) : Value := .agg #[.int .i64 x.k, .int .i64 x.n, .string x.s, .slice p x.l.length c]
abbrev rawA (x : Raw) (p : Option Addr) (c : Nat) : Array Value := #[.int .i64 x.k, .int .i64 x.n, .string x.s, .slice p x.l.length c]
/-- raw numbers lie in a block, and their list where it did -/
structure RawBox (W : World) (b : Nat) (x : Raw) (p : Option Addr) (c : Nat) : Prop where
  fine : x.fine
  box : Bx W b 24 (rawA x p c)
  lies : Lies W (.slice p x.l.length c) x.l.length 3 (rawsCells x.l)
theorem RawBox.below {W W' : World} {b : Nat} {x : Raw} {p : Option Addr} {c : Nat} (h : RawBox W b x p c) (hb : Below W.heap.size W W') : RawBox W' b x p c := ⟨h.fine, h.box.below hb, h.lies.below hb⟩
theorem RawBox.alloc {W : World} {b : Nat} {x : Raw} {p : Option Addr} {c : Nat} (h : RawBox W b x p c) (o : Obj) : RawBox (W.alloc o) b x p c := h.below ((Below.refl _ _).alloc (Nat.le_refl _) o)
theorem RawBox.new (W : World) {x : Raw} (hx : x.fine) {p : Option Addr} {c : Nat} (hL : Lies W (.slice p x.l.length c) x.l.length 3 (rawsCells x.l)) : RawBox (W.alloc (.cells (rawA x p c) 24)) W.heap.size x p c :=
  ⟨hx, Bx.new _ _ _, hL.below ((Below.refl _ _).alloc (Nat.le_refl _) _)⟩
theorem RawBox.facts {W : World} {b : Nat} {x : Raw} {p : Option Addr} {c : Nat} (h : RawBox W b x p c) :
    W.cell? ⟨b, 0, none⟩ = some (.int .i64 x.k) ∧ W.cell? ⟨b, 1, none⟩ = some (.int .i64 x.n) ∧ W.cell? ⟨b, 2, none⟩ = some (.string x.s) ∧ W.cell? ⟨b, 3, none⟩ = some (.slice p x.l.length c) :=
  ⟨h.box.at 0 rfl, h.box.at 1 rfl, h.box.at 2 rfl, h.box.at 3 rfl⟩
/-- a value in a box, and all that it leads to -/
structure VAtBox (W : World) (b : Nat) (v : V) (x : It) : Prop where
  box : VBox W b x.k x.n x.s (.slice x.p x.m x.c)
  at' : VAt 1 W v x
theorem VAtBox.below {W W' : World} {b : Nat} {v : V} {x : It} (h : VAtBox W b v x) (hb : Below W.heap.size W W') : VAtBox W' b v x := ⟨h.box.below hb, h.at'.below hb⟩
theorem VAtBox.alloc {W : World} {b : Nat} {v : V} {x : It} (h : VAtBox W b v x) (o : Obj) : VAtBox (W.alloc o) b v x := h.below ((Below.refl _ _).alloc (Nat.le_refl _) o)
theorem VAtBox.new {W : World} {v : V} {x : It} (h : VAt 1 W v x) : VAtBox (W.alloc (.cells #[.int .i64 x.k, .int .i64 x.n, .string x.s, .slice x.p x.m x.c] 28)) W.heap.size v x :=
  ⟨VBox.new _ _ _ _ _, h.below ((Below.refl _ _).alloc (Nat.le_refl _) _)⟩

set_option maxHeartbeats 2000000 in
set_option maxRecDepth 100000 in
theorem valCut_walk (x : Raw) (hx : x.fine) (p : Option Addr) (c : Nat) (at' : Int) (ha1 : -9223372036854775808 ≤ at') (ha2 : at' ≤ 9223372036854775807) (ea : Addr) (w : World) (hT : Tabs w) (hE : errLies ea w) (hL : Lies w (.slice p x.l.length c) x.l.length 3 (rawsCells x.l)) :
    Calls Tryd.prog 8 #[rawV x p c, .int .i64 at'] w fun e w' => e = .returned (.bool true) ∧ Below w.heap.size w w' := by
  have O0 := (Ok.alloc (ea := ea) (w := w) ⟨hT, hE, Below.refl _ _⟩ (.cells (rawA x p c) 24))
  have R0 := RawBox.new w hx hL
  have hok := valOf_ok x
  have hlen := bytes_len hok
  have hpick := fun w => pick_any at' ((valOf x).bytes.length : Int) ha1 ha2 (by omega) (by omega) w
  obtain ⟨k, hk⟩ : ∃ k : Nat, pickI at' ((valOf x).bytes.length : Int) = (k : Int) := ⟨(pickI at' ((valOf x).bytes.length : Int)).toNat, by have := pickI_bd at' ((valOf x).bytes.length : Int) (by omega); omega⟩
  have hkl : k < (valOf x).bytes.length := by have := pickI_bd at' ((valOf x).bytes.length : Int) (by omega); omega
  rw [hk] at hpick
  have hcut := decV_cut (valOf x) hok hkl
  have hvat : ∀ W y, VAt 1 W (valOf x) y → Tabs W → Calls Tryd.prog 12 #[y.v] W fun e w' => e = .returned (.tuple #[.string ⟨(valOf x).bytes.toArray⟩, .int .i64 0]) ∧ Below W.heap.size W w' := fun W y h ht => encode_ok h ht hok
  obtain ⟨s, hs⟩ : ∃ s : ByteArray, s = ⟨(valOf x).bytes.toArray⟩ := ⟨_, rfl⟩
  have hsl : s.data.toList = (valOf x).bytes := by rw [hs]
  have hsz : s.size = (valOf x).bytes.length := by rw [hs]; exact ba_size _
  have hdec : decV ((s.extract 0 k).data.toList.drop 0) = .error 10 := by
    rw [extract_toList', List.drop_zero, List.drop_zero, Nat.sub_zero, hsl]; exact hcut
  rw [← hsz] at hpick hkl hlen
  rw [← hs] at hvat
  clear hs hsl hsz hcut hk hok hT hE hL
  have hxs : (s.extract 0 k).size = k := by rw [ByteArray.size_extract]; omega
  have hxz : (s.extract 0 k).size ≤ 9223372036854775807 := by omega
  obtain ⟨hl1, hl2⟩ := hlen
  have i1 : (0 : Int) ≤ (k : Int) := by omega
  have i2 : (k : Int) ≤ (s.size : Int) := by omega
  have i3 : ((s.size : Int) == 0) = false := beq_eq_false_iff_ne.2 (by omega)
  have HP := Lib.hid hpick
  have HV := Lib.hid hvat
  have HD := Lib.hid hdec
  have HXZ := Lib.hid hxz
  clear hpick hvat hdec hxs hxz
  go_enter Tryd.func8, Tryd.ntmps8
  go_wp2_with fail
  refine (awake_any ea _ O0.t O0.e).mono ?_
  rintro e W1 ⟨rfl, hB⟩
  have O1 := O0.below hB
  have R1 := R0.below hB
  clear hB O0 R0
  obtain ⟨r0, r1, r2, r3⟩ := R1.facts
  go_wp2_with fail
  refine (valOf_any x hx p c _ R1.lies).mono ?_
  rintro e W2 ⟨⟨yk, yn, ys, yp, ym, yc⟩, rfl, hy, hB, _⟩
  have V2 := VAtBox.new hy
  have O2 := (O1.below hB).alloc (.cells #[.int .i64 yk, .int .i64 yn, .string ys, .slice yp ym yc] 28)
  clear hB O1 R1 r0 r1 r2 r3 hy
  obtain ⟨⟨c0, c1, c2, c3⟩, _⟩ := V2.box.facts
  have V2 := Lib.hid V2
  have O2 := Lib.hid O2
  go_wp2_with fail
  refine (HV.out _ ⟨yk, yn, ys, yp, ym, yc⟩ V2.out.at' O2.out.t).mono ?_
  rintro e W3 ⟨rfl, hB⟩
  have O3 := Lib.hid (O2.out.below hB)
  clear hB O2 V2 c0 c1 c2 c3
  go_wp2_with fail
  refine (HP.out _).mono ?_
  rintro e W4 ⟨rfl, rfl⟩
  go_wp2_with fail
  refine (decode_err HXZ.out (p := 0) (Nat.zero_le _) HD.out O3.out.t O3.out.e).mono ?_
  rintro e W5 ⟨rfl, hB⟩
  have zv := (VAtBox.new (x := ⟨0, 0, ⟨#[]⟩, none, 0, 0⟩) (vat_nil 1 W5 (u := .mk 0 0 ⟨#[]⟩ []) (flat_fine (by kernel_rfl)) rfl))
  have hb2 : Below (W5.alloc (.cells #[.int .i64 0, .int .i64 0, .string ⟨#[]⟩, .slice none 0 0] 28)).heap.size (W5.alloc (.cells #[.int .i64 0, .int .i64 0, .string ⟨#[]⟩, .slice none 0 0] 28)) (((W5.alloc (.cells #[.int .i64 0, .int .i64 0, .string ⟨#[]⟩, .slice none 0 0] 28)).alloc (.cells #[.int .i64 5, .int .i64 0, .string ⟨#[]⟩, .slice none 0 0] 28)).alloc (.cells #[.int .i64 5, .int .i64 0, .string ⟨#[]⟩, .slice (some ⟨W5.heap.size + 1, 0, none⟩) 1 1] 28)) := ((Below.refl _ _).alloc (Nat.le_refl _) _).alloc (by simp) _
  have O5 := (((O3.out.below hB).alloc (.cells #[.int .i64 0, .int .i64 0, .string ⟨#[]⟩, .slice none 0 0] 28)).below hb2)
  have Z5 := zv.below hb2
  have hn : Bx (((W5.alloc (.cells #[.int .i64 0, .int .i64 0, .string ⟨#[]⟩, .slice none 0 0] 28)).alloc (.cells #[.int .i64 5, .int .i64 0, .string ⟨#[]⟩, .slice none 0 0] 28)).alloc (.cells #[.int .i64 5, .int .i64 0, .string ⟨#[]⟩, .slice (some ⟨W5.heap.size + 1, 0, none⟩) 1 1] 28)) (W5.heap.size + 1) 28 #[.int .i64 5, .int .i64 0, .string ⟨#[]⟩, .slice none 0 0] := by
    have := (Bx.new (W5.alloc (.cells #[.int .i64 0, .int .i64 0, .string ⟨#[]⟩, .slice none 0 0] 28)) 28 #[.int .i64 5, .int .i64 0, .string ⟨#[]⟩, .slice none 0 0]).alloc (.cells #[.int .i64 5, .int .i64 0, .string ⟨#[]⟩, .slice (some ⟨W5.heap.size + 1, 0, none⟩) 1 1] 28)
    rwa [World.size_alloc] at this
  have hv5 : VAt 1 (((W5.alloc (.cells #[.int .i64 0, .int .i64 0, .string ⟨#[]⟩, .slice none 0 0] 28)).alloc (.cells #[.int .i64 5, .int .i64 0, .string ⟨#[]⟩, .slice none 0 0] 28)).alloc (.cells #[.int .i64 5, .int .i64 0, .string ⟨#[]⟩, .slice (some ⟨W5.heap.size + 1, 0, none⟩) 1 1] 28)) (.mk 5 0 ⟨#[]⟩ [.mk 5 0 ⟨#[]⟩ []]) ⟨5, 0, ⟨#[]⟩, some ⟨W5.heap.size + 1, 0, none⟩, 1, 1⟩ :=
    ⟨⟨by decide, by decide, by decide, by decide⟩, rfl, rfl, rfl, [⟨5, 0, ⟨#[]⟩, none, 0, 0⟩], rfl, hn.lies rfl rfl, fun i h h' => by
      obtain rfl : i = 0 := by simp at h; omega
      exact vat_nil 0 _ (u := .mk 5 0 ⟨#[]⟩ []) ⟨by decide, by decide, by decide, by decide⟩ rfl⟩
  have O5 := Lib.hid O5
  have Z5 := Lib.hid Z5
  have HV5 := Lib.hid hv5
  clear zv hb2 hn hB O3 hv5
  go_wp2_with fail
  refine (encode_no HV5.out O5.out.t listNil_ok).mono ?_
  rintro e W6 ⟨rfl, hB⟩
  have hv6 : VAt 1 (W6.alloc (.cells #[.int .i64 0, .int .i64 0, .string ⟨#[]⟩, .slice none 0 0] 28)) (.mk 5 0 ⟨#[]⟩ [.mk 0 0 ⟨#[]⟩ []]) ⟨5, 0, ⟨#[]⟩, some ⟨W6.heap.size, 0, none⟩, 1, 1⟩ :=
    ⟨⟨by decide, by decide, by decide, by decide⟩, rfl, rfl, rfl, [⟨0, 0, ⟨#[]⟩, none, 0, 0⟩], rfl, (Bx.new W6 28 #[.int .i64 0, .int .i64 0, .string ⟨#[]⟩, .slice none 0 0]).lies rfl rfl, fun i h h' => by
      obtain rfl : i = 0 := by simp at h; omega
      exact vat_nil 0 _ (u := .mk 0 0 ⟨#[]⟩ []) (flat_fine (by kernel_rfl)) rfl⟩
  have O6 := Lib.hid ((O5.out.below hB).alloc (.cells #[.int .i64 0, .int .i64 0, .string ⟨#[]⟩, .slice none 0 0] 28))
  have Z6 := Lib.hid ((Z5.out.below hB).alloc (.cells #[.int .i64 0, .int .i64 0, .string ⟨#[]⟩, .slice none 0 0] 28))
  have HV6 := Lib.hid hv6
  generalize W5.heap.size = z at Z6 ⊢
  clear hB O5 Z5 HV5 hv6
  go_wp2_with fail
  refine (encode_ok HV6.out O6.out.t oneNil_ok).mono ?_
  rintro e W7 ⟨rfl, hB⟩
  rw [oneNil_bytes]
  have O7 := Lib.hid (O6.out.below hB)
  have Z7 := Lib.hid (Z6.out.below hB)
  clear hB O6 Z6 HV6
  go_wp2_with fail
  refine (decode_err cut_size (p := 0) (Nat.zero_le _) decV_bad' O7.out.t O7.out.e).mono ?_
  rintro e W8 ⟨rfl, hB⟩
  have O8 := Lib.hid ((O7.out.below hB).alloc (.cells #[.int .i64 0, .int .i64 0, .string ⟨#[]⟩, .slice none 0 0] 28))
  have z8 := ((Z7.out.below hB).alloc (.cells #[.int .i64 0, .int .i64 0, .string ⟨#[]⟩, .slice none 0 0] 28))
  obtain ⟨⟨c0, c1, c2, c3⟩, _⟩ := z8.box.facts
  have Z8 := Lib.hid z8
  clear hB O7 Z7 z8
  go_wp2_with fail
  refine (refSame_any 1 (.mk 0 0 ⟨#[]⟩ []) (.mk 0 0 ⟨#[]⟩ []) ⟨0, 0, ⟨#[]⟩, none, 0, 0⟩ ⟨0, 0, ⟨#[]⟩, none, 0, 0⟩ _ Z8.out.at' Z8.out.at').mono ?_
  rintro e W9 ⟨rfl, hB⟩
  rw [cmpV_self]
  have O9 := Lib.hid (O8.out.below hB)
  clear hB O8 Z8 c0 c1 c2 c3
  go_wp2_with fail
  go_ret
  exact ⟨rfl, O9.out.b⟩
end Go.Proofs.YtbmfclankoblfaaDoor

/- The arguments of this seat's rows, opened: raw numbers of values. -/
set_option linter.unusedSimpArgs false
set_option linter.unusedVariables false
namespace Go.Proofs.YtbmfclankoblfaaDoor
open Go Go.ChangeShapes Go.WideShapes Go.ChangeAt Go.RowKit Go.ChangeMaps
theorem maxLen_le {n : Nat} (h : n ≤ maxLen) : n ≤ 9223372036854775807 := by unfold maxLen at h; omega
section
variable {H : Type} {enc : TypeId × Value → H} {W : World} {base : Nat} {v : Value} {d : DataW H} {p : List MemPlace}

set_option maxRecDepth 100000 in
theorem rawOne_of_trod {n : Nat} {cs : List Value} {x : DataW H × List MemPlace} (hl : cs.length = 3) (hx : DataW.trod enc Tryd.prog W 0 (fun _ => true) true n 58 cs = some x) :
    ∃ r : RawOne, cs = r.cells ∧ r.fine := by
  obtain ⟨y0, y1, y2, m, rfl, _, t0, t1, t2⟩ := Deep.trod_struct3 Tryd.underlying58 hx
  match cs, hl with
  | [c0, c1, c2], _ =>
    obtain ⟨k, h0, _, b0⟩ := DataW.trod_int Tryd.underlying3 t0
    obtain ⟨n, h1, _, b1⟩ := DataW.trod_int Tryd.underlying3 t1
    obtain ⟨s, h2, _, b2⟩ := DataW.trod_string Tryd.underlying9 t2
    have q1 : Tryd.prog.cellsOf 3 = 1 := by kernel_rfl
    have q2 : Tryd.prog.cellsOf 9 = 1 := by kernel_rfl
    simp only [q1, q2, List.drop, List.take] at h0 h1 h2
    simp only [List.cons.injEq, and_true] at h0 h1 h2
    subst h0 h1 h2
    exact ⟨⟨k, n, s⟩, rfl, bounds_i64 b0, bounds_i64 b1, maxLen_le b2⟩

set_option maxRecDepth 100000 in
theorem openRaw (hv : Value.okWide Tryd.prog W .any base 24 v) (h : DataW.Trod enc Tryd.prog W 0 (fun _ => true) true 24 v d p) (hlt : ∀ x ∈ p, x.block < W.heap.size) :
    ∃ (x : Raw) (b : Option Addr) (c : Nat), v = rawV x b c ∧ x.fine ∧ Lies W (.slice b x.l.length c) x.l.length 3 (rawsCells x.l) := by
  obtain ⟨v0, v1, v2, v3, y0, y1, y2, y3, n, rfl, _, rfl, t0, t1, t2, t3⟩ := Joins.open_agg4 Tryd.underlying24 (by kernel_rfl) (by kernel_rfl) hv h
  obtain ⟨k, h0, _, b0⟩ := DataW.trod_int Tryd.underlying3 t0
  obtain ⟨m, h1, _, b1⟩ := DataW.trod_int Tryd.underlying3 t1
  obtain ⟨s, h2, _, b2⟩ := DataW.trod_string Tryd.underlying9 t2
  simp only [List.cons.injEq, and_true] at h0 h1 h2
  subst h0 h1 h2
  have hs3 : ∃ a len cap, v3 = .slice a len cap := by
    rcases Deep.open_slice Tryd.underlying22 t3 with ⟨hcs, _⟩ | ⟨a, len, cap, _, _, _, _, hcs, _⟩
    · simp at hcs; exact ⟨_, _, _, hcs⟩
    · simp at hcs; exact ⟨_, _, _, hcs⟩
  obtain ⟨a, len, cap, rfl⟩ := hs3
  obtain ⟨b, n', c, xs, e1, e2, e3, e4, e5, e6, _⟩ := open_lies (α := RawOne) 3 RawOne.cells RawOne.fine Tryd.underlying22 (by kernel_rfl) (by decide)
    (fun n cs x hl hx => rawOne_of_trod hl hx) ⟨_, rfl, rfl⟩ (⟨n, t3⟩ : DataW.Trod enc Tryd.prog W 0 (fun _ => true) true 22 (.slice a len cap) y3.1 y3.2) (fun x hx => hlt x (by simp [hx]))
  injection e1 with f1 f2 f3
  subst f1 f2 f3
  subst e2
  exact ⟨⟨k, m, s, xs⟩, a, cap, rfl, ⟨bounds_i64 b0, bounds_i64 b1, maxLen_le b2, maxLen_le (Nat.le_trans e3 e4), e6⟩, e5⟩
end
end Go.Proofs.YtbmfclankoblfaaDoor

/- Texts put together: ValMath, ValCutLaw, RowOpensV, ValKindsLaw, ValBackLaw. -/
import Derived.Test.YtmijlcilnaeppaaGreatDoorAwakeZ
import Derived.Test.YtmijlcilnaeppaaGreatDoorBun14
import Derived.Test.YtmijlcilnaeppaaGreatDoorBun4
import Derived.Deep.Strs
/- Bytes of values: lengths, what they begin with. -/
set_option linter.unusedSimpArgs false
set_option linter.unusedVariables false
namespace Go.Proofs.YtmijlcilnaeppaaGreatDoor
open Go Go.RowKit Go.Shelf

theorem num_pos (n : Int) : 0 < (Wire.num n).length := by
  rw [Wire.num_length]
  exact List.length_pos_iff.2 (Wire.groups_ne n)
theorem flat_bytes_len {u : V} (h : u.flatOk = true) : 0 < u.bytesIn.length ∧ u.bytesIn.length ≤ 10020 := by
  have hp := flatOk_parts h
  refine ⟨?_, flatBytes_len ⟨by omega, by omega⟩ ⟨by omega, by omega⟩ (by omega)⟩
  unfold V.bytesIn flatBytes
  rw [List.length_append]
  have := num_pos u.k
  omega
theorem flatMap_len : ∀ us : List V, (∀ u ∈ us, u.flatOk = true) → (us.flatMap V.bytesIn).length ≤ us.length * 10020
  | [], _ => by simp
  | u :: us, h => by
    rw [List.flatMap_cons, List.length_append, List.length_cons, Nat.succ_mul]
    have h1 := (flat_bytes_len (h u List.mem_cons_self)).2
    have h2 := flatMap_len us (fun v hv => h v (List.mem_cons_of_mem _ hv))
    omega
theorem bytes_len {v : V} (h : v.ok = true) : 0 < v.bytes.length ∧ v.bytes.length ≤ 150000 := by
  by_cases h5 : v.k = 5
  · obtain ⟨e, hl, hi⟩ := ok_list h h5
    unfold V.bytes
    rw [if_pos h5, List.length_append, List.length_append]
    have h1 := num_pos 5
    have h2 := Wire.num_len 5 ⟨by decide, by decide⟩
    have h3 := Wire.num_len (v.l.length : Int) ⟨by omega, by omega⟩
    have h4 := flatMap_len v.l (fun u hu => (okIn_parts (hi u hu)).2)
    omega
  · have := flat_bytes_len (ok_flat h h5)
    unfold V.bytes
    rw [if_neg h5]
    omega
theorem bytes_head (v : V) : ∃ r, v.bytes = Wire.num v.k ++ r := by
  unfold V.bytes
  split
  · rename_i h5
    rw [h5]
    exact ⟨_, List.append_assoc _ _ _⟩
  · exact ⟨_, rfl⟩
theorem bytes_num {v : V} (h : v.k = 1 ∨ v.k = 3 ∨ v.k = 4) : v.bytes = Wire.num v.k ++ Wire.num v.n := by
  unfold V.bytes V.bytesIn flatBytes
  rw [if_neg (by omega), if_pos h]
theorem decV_bad : decV ([10, 2, 10, 0] : List UInt8) = .error 30 := by
  have n5 : Wire.num 5 = [10] := by kernel_rfl
  have n1 : Wire.num 1 = [2] := by kernel_rfl
  have h1 : numL ([10, 2, 10, 0] : List UInt8) = some 5 := numL_of ⟨by decide, by decide⟩ (by rw [n5]; exact ⟨_, rfl⟩)
  have h2 : numL ([2, 10, 0] : List UInt8) = some 1 := numL_of ⟨by decide, by decide⟩ (by rw [n1]; exact ⟨_, rfl⟩)
  have h3 : numL ([10, 0] : List UInt8) = some 5 := numL_of ⟨by decide, by decide⟩ (by rw [n5]; exact ⟨_, rfl⟩)
  rw [decV_list h1, n5]
  show (match decList [2, 10, 0] with | .error e => _ | .ok (us, r) => _) = _
  have h4 : decIn ([10, 0] : List UInt8) = .error 30 := by
    unfold decIn
    rw [h3]
    rfl
  have h5 : decList ([2, 10, 0] : List UInt8) = .error 30 := by
    unfold decList
    rw [h2]
    show (if _ then _ else _) = _
    rw [if_neg (by decide), n1]
    show (match decMany 1 [10, 0] with | .error e => _ | .ok (us, r) => _) = _
    rw [decMany_succ, h4]
  rw [h5]
theorem decV_bad' : decV ((ByteArray.extract ⟨#[10, 2, 0]⟩ 0 2 ++ (⟨#[10, 0]⟩ : ByteArray)).data.toList.drop 0) = .error 30 := by
  rw [show (ByteArray.extract ⟨#[10, 2, 0]⟩ 0 2 ++ (⟨#[10, 0]⟩ : ByteArray)).data.toList.drop 0 = [10, 2, 10, 0] from by kernel_rfl]
  exact decV_bad
theorem cut_size : (ByteArray.extract ⟨#[10, 2, 0]⟩ 0 2 ++ (⟨#[10, 0]⟩ : ByteArray)).size ≤ 9223372036854775807 := by decide
theorem listNil_ok : (V.mk 5 0 ⟨#[]⟩ [.mk 5 0 ⟨#[]⟩ []]).ok = false := by kernel_rfl
theorem oneNil_ok : (V.mk 5 0 ⟨#[]⟩ [.mk 0 0 ⟨#[]⟩ []]).ok = true := by kernel_rfl
theorem oneNil_bytes : (V.mk 5 0 ⟨#[]⟩ [.mk 0 0 ⟨#[]⟩ []]).bytes = [10, 2, 0] := by kernel_rfl
end Go.Proofs.YtmijlcilnaeppaaGreatDoor

/- The walks of ValCut and ValKinds. -/
set_option linter.unusedSimpArgs false
set_option linter.unusedVariables false
namespace Go.Proofs.YtmijlcilnaeppaaGreatDoor
open Go Go.RowKit Go.Shelf

abbrev rawV (x : Raw) (p : Option Addr) (c : Nat) : Value := .agg #[.int .i64 x.k, .int .i64 x.n, .string x.s, .slice p x.l.length c]
abbrev rawA (x : Raw) (p : Option Addr) (c : Nat) : Array Value := #[.int .i64 x.k, .int .i64 x.n, .string x.s, .slice p x.l.length c]
/-- raw numbers lie in a block, and their list where it did -/
structure RawBox (W : World) (b : Nat) (x : Raw) (p : Option Addr) (c : Nat) : Prop where
  fine : x.fine
  box : Bx W b 24 (rawA x p c)
  lies : Lies W (.slice p x.l.length c) x.l.length 3 (rawsCells x.l)
theorem RawBox.below {W W' : World} {b : Nat} {x : Raw} {p : Option Addr} {c : Nat} (h : RawBox W b x p c) (hb : Below W.heap.size W W') : RawBox W' b x p c := ⟨h.fine, h.box.below hb, h.lies.below hb⟩
theorem RawBox.alloc {W : World} {b : Nat} {x : Raw} {p : Option Addr} {c : Nat} (h : RawBox W b x p c) (o : Obj) : RawBox (W.alloc o) b x p c := h.below ((Below.refl _ _).alloc (Nat.le_refl _) o)
theorem RawBox.new (W : World) {x : Raw} (hx : x.fine) {p : Option Addr} {c : Nat} (hL : Lies W (.slice p x.l.length c) x.l.length 3 (rawsCells x.l)) : RawBox (W.alloc (.cells (rawA x p c) 24)) W.heap.size x p c :=
  ⟨hx, Bx.new _ _ _, hL.below ((Below.refl _ _).alloc (Nat.le_refl _) _)⟩
theorem RawBox.facts {W : World} {b : Nat} {x : Raw} {p : Option Addr} {c : Nat} (h : RawBox W b x p c) :
    W.cell? ⟨b, 0, none⟩ = some (.int .i64 x.k) ∧ W.cell? ⟨b, 1, none⟩ = some (.int .i64 x.n) ∧ W.cell? ⟨b, 2, none⟩ = some (.string x.s) ∧ W.cell? ⟨b, 3, none⟩ = some (.slice p x.l.length c) :=
  ⟨h.box.at 0 rfl, h.box.at 1 rfl, h.box.at 2 rfl, h.box.at 3 rfl⟩
/-- a value in a box, and all that it leads to -/
structure VAtBox (W : World) (b : Nat) (v : V) (x : It) : Prop where
  box : VBox W b x.k x.n x.s (.slice x.p x.m x.c)
  at' : VAt 1 W v x
theorem VAtBox.below {W W' : World} {b : Nat} {v : V} {x : It} (h : VAtBox W b v x) (hb : Below W.heap.size W W') : VAtBox W' b v x := ⟨h.box.below hb, h.at'.below hb⟩
theorem VAtBox.alloc {W : World} {b : Nat} {v : V} {x : It} (h : VAtBox W b v x) (o : Obj) : VAtBox (W.alloc o) b v x := h.below ((Below.refl _ _).alloc (Nat.le_refl _) o)
theorem VAtBox.new {W : World} {v : V} {x : It} (h : VAt 1 W v x) : VAtBox (W.alloc (.cells #[.int .i64 x.k, .int .i64 x.n, .string x.s, .slice x.p x.m x.c] 30)) W.heap.size v x :=
  ⟨VBox.new _ _ _ _ _, h.below ((Below.refl _ _).alloc (Nat.le_refl _) _)⟩

end Go.Proofs.YtmijlcilnaeppaaGreatDoor

/- The arguments of this seat's rows, opened: raw numbers of values. -/
set_option linter.unusedSimpArgs false
set_option linter.unusedVariables false
namespace Go.Proofs.YtmijlcilnaeppaaGreatDoor
open Go Go.ChangeShapes Go.WideShapes Go.ChangeAt Go.RowKit Go.ChangeMaps
theorem maxLen_le {n : Nat} (h : n ≤ maxLen) : n ≤ 9223372036854775807 := by unfold maxLen at h; omega
section
variable {H : Type} {enc : TypeId × Value → H} {W : World} {base : Nat} {v : Value} {d : DataW H} {p : List MemPlace}

set_option maxRecDepth 100000 in
theorem rawOne_of_trod {n : Nat} {cs : List Value} {x : DataW H × List MemPlace} (hl : cs.length = 3) (hx : DataW.trod enc Tryz.prog W 0 (fun _ => true) true n 52 cs = some x) :
    ∃ r : RawOne, cs = r.cells ∧ r.fine := by
  obtain ⟨y0, y1, y2, m, rfl, _, t0, t1, t2⟩ := Deep.trod_struct3 Tryz.underlying52 hx
  match cs, hl with
  | [c0, c1, c2], _ =>
    obtain ⟨k, h0, _, b0⟩ := DataW.trod_int Tryz.underlying3 t0
    obtain ⟨n, h1, _, b1⟩ := DataW.trod_int Tryz.underlying3 t1
    obtain ⟨s, h2, _, b2⟩ := DataW.trod_string Tryz.underlying9 t2
    have q1 : Tryz.prog.cellsOf 3 = 1 := by kernel_rfl
    have q2 : Tryz.prog.cellsOf 9 = 1 := by kernel_rfl
    simp only [q1, q2, List.drop, List.take] at h0 h1 h2
    simp only [List.cons.injEq, and_true] at h0 h1 h2
    subst h0 h1 h2
    exact ⟨⟨k, n, s⟩, rfl, bounds_i64 b0, bounds_i64 b1, maxLen_le b2⟩

set_option maxRecDepth 100000 in
theorem openRaw (hv : Value.okWide Tryz.prog W .any base 24 v) (h : DataW.Trod enc Tryz.prog W 0 (fun _ => true) true 24 v d p) (hlt : ∀ x ∈ p, x.block < W.heap.size) :
    ∃ (x : Raw) (b : Option Addr) (c : Nat), v = rawV x b c ∧ x.fine ∧ Lies W (.slice b x.l.length c) x.l.length 3 (rawsCells x.l) := by
  obtain ⟨v0, v1, v2, v3, y0, y1, y2, y3, n, rfl, _, rfl, t0, t1, t2, t3⟩ := Joins.open_agg4 Tryz.underlying24 (by kernel_rfl) (by kernel_rfl) hv h
  obtain ⟨k, h0, _, b0⟩ := DataW.trod_int Tryz.underlying3 t0
  obtain ⟨m, h1, _, b1⟩ := DataW.trod_int Tryz.underlying3 t1
  obtain ⟨s, h2, _, b2⟩ := DataW.trod_string Tryz.underlying9 t2
  simp only [List.cons.injEq, and_true] at h0 h1 h2
  subst h0 h1 h2
  have hs3 : ∃ a len cap, v3 = .slice a len cap := by
    rcases Deep.open_slice Tryz.underlying22 t3 with ⟨hcs, _⟩ | ⟨a, len, cap, _, _, _, _, hcs, _⟩
    · simp at hcs; exact ⟨_, _, _, hcs⟩
    · simp at hcs; exact ⟨_, _, _, hcs⟩
  obtain ⟨a, len, cap, rfl⟩ := hs3
  obtain ⟨b, n', c, xs, e1, e2, e3, e4, e5, e6, _⟩ := open_lies (α := RawOne) 3 RawOne.cells RawOne.fine Tryz.underlying22 (by kernel_rfl) (by decide)
    (fun n cs x hl hx => rawOne_of_trod hl hx) ⟨_, rfl, rfl⟩ (⟨n, t3⟩ : DataW.Trod enc Tryz.prog W 0 (fun _ => true) true 22 (.slice a len cap) y3.1 y3.2) (fun x hx => hlt x (by simp [hx]))
  injection e1 with f1 f2 f3
  subst f1 f2 f3
  subst e2
  exact ⟨⟨k, m, s, xs⟩, a, cap, rfl, ⟨bounds_i64 b0, bounds_i64 b1, maxLen_le b2, maxLen_le (Nat.le_trans e3 e4), e6⟩, e5⟩
end
end Go.Proofs.YtmijlcilnaeppaaGreatDoor

/- The walk of ValKinds. -/
set_option linter.unusedSimpArgs false
set_option linter.unusedVariables false
namespace Go.Proofs.YtmijlcilnaeppaaGreatDoor
open Go Go.RowKit Go.Shelf

/-- up to the value's bytes: the same for all laws that begin so -/
theorem reads_kind {v : V} (h : v.ok = true) {s : ByteArray} (hs : s.data.toList = v.bytes) : readsNum s 0 v.k := by
  obtain ⟨r, hr⟩ := bytes_head v
  refine ⟨by decide, by omega, ?_, ?_⟩
  · have := ok_fine h
    exact ⟨this.k.1, this.k.2⟩
  · rw [show (0 : Int).toNat = 0 from rfl, List.drop_zero, hs, hr]
    exact List.prefix_append _ _
theorem reads_num {v : V} (h : v.ok = true) (hk : v.k = 1 ∨ v.k = 3 ∨ v.k = 4) {s : ByteArray} (hs : s.data.toList = v.bytes) : readsNum s (((Wire.num v.k).length : Nat) : Int) v.n ∧ (Wire.num v.k).length + (Wire.num v.n).length = s.size := by
  have hb := bytes_num hk
  have hsz : s.size = v.bytes.length := by rw [← hs]; simp
  rw [hb, List.length_append] at hsz
  refine ⟨⟨by omega, by omega, ?_, ?_⟩, hsz.symm⟩
  · have := ok_fine h
    exact ⟨this.n.1, this.n.2⟩
  · rw [Int.toNat_natCast, hs, hb, List.drop_left]
    exact List.prefix_refl _

end Go.Proofs.YtmijlcilnaeppaaGreatDoor

/- The walk of ValBack. -/
set_option linter.unusedSimpArgs false
set_option linter.unusedVariables false
namespace Go.Proofs.YtmijlcilnaeppaaGreatDoor
open Go Go.RowKit Go.Shelf

/-- the same, of values that ValOf makes -/
theorem same_iff {a b : V} (ha : a.ok = true) (hb : b.ok = true) : (cmpV 1 a b == 0) = true ↔ a = b := by
  rw [beq_iff_eq]
  exact ⟨cmpV_eq 1 a b (ok_deep ha) (ok_deep hb), fun h => by rw [h]; exact cmpV_self 1 b⟩
theorem bytes_begin {a b : V} (ha : a.ok = true) (hb : b.ok = true) (h : a.bytes <+: b.bytes) : a = b := by
  obtain ⟨r, hr⟩ := h
  have h1 := decV_append a ha r
  have h2 := decV_append b hb []
  rw [List.append_nil, ← hr, h1] at h2
  injection h2 with h2
  exact (Prod.mk.inj h2).1
/-- the test of a beginning, as the law asks it -/
theorem begins_iff (p q : ByteArray) (h : p.size ≤ q.size) : ((q.extract 0 p.size).toList == p.toList) = decide (p.data.toList <+: q.data.toList) := by
  rw [Bool.eq_iff_iff, beq_iff_eq, decide_eq_true_iff, Lib.toList_data, Lib.toList_data, extract_toList', List.drop_zero, Nat.sub_zero, List.prefix_iff_eq_take]
  have : p.data.toList.length = p.size := by simp
  rw [this]
  exact eq_comm

theorem min_cut (s : ByteArray) : ∃ m : Nat, m ≤ s.size ∧ m ≤ 20 ∧ (if (20 : Int) < (s.size : Int) then (20 : Int) else (s.size : Int)) = (m : Int) ∧ min (s.size : Int) 20 = (m : Int) := by
  by_cases h : 20 < s.size
  · exact ⟨20, by omega, by omega, by rw [if_pos (by omega)]; rfl, by omega⟩
  · exact ⟨s.size, by omega, by omega, by rw [if_neg (by omega)], by omega⟩

end Go.Proofs.YtmijlcilnaeppaaGreatDoor

/- (*reader).number: the next number. -/
import Derived.Lib.QuietBelowIn
import Derived.RangeFuncNested
import Derived.Sort.CutIn
import Derived.Test.YtffoklhopmhjaaaGreatDoorWireText
import Derived.Test.YtffoklhopmhjaaaGreatDoorWireBytes
set_option linter.unusedSimpArgs false
set_option linter.unusedVariables false
namespace Go.Proofs.YtffoklhopmhjaaaGreatDoor
open Go Go.RowKit Go.Shelf Go.Sort
attribute [local go_sem] Oper.semAt_some

/-- the block of a reader of s that stands at p -/
def ReaderAt (W : World) (R : Nat) (s : ByteArray) (p : Int) : Prop := W.heap[R]? = some (.cells #[.string s, .int .i64 p] 109 (0, 0))

theorem ReaderAt.cell0 {W : World} {R : Nat} {s : ByteArray} {p : Int} (h : ReaderAt W R s p) : W.cell? ⟨R, 0, none⟩ = some (.string s) := by
  simp [World.cell?, show W.heap[R]? = _ from h]
theorem ReaderAt.cell1 {W : World} {R : Nat} {s : ByteArray} {p : Int} (h : ReaderAt W R s p) : W.cell? ⟨R, 1, none⟩ = some (.int .i64 p) := by
  simp [World.cell?, show W.heap[R]? = _ from h]
theorem ReaderAt.frozen {W : World} {R : Nat} {s : ByteArray} {p : Int} (h : ReaderAt W R s p) (k : Nat) : W.frozen? ⟨R, k, none⟩ = false := by
  simp [World.frozen?, show W.heap[R]? = _ from h]
theorem ReaderAt.lt {W : World} {R : Nat} {s : ByteArray} {p : Int} (h : ReaderAt W R s p) : R < W.heap.size := (Array.getElem?_eq_some_iff.1 h).1

/-- the places of number's own variables -/
structure Vars where
  R : Nat
  b0 : Nat
  b1 : Nat
  b2 : Nat
  b3 : Nat
  b4 : Nat
  b5 : Nat
  b6 : Nat
  b7 : Nat

/-- they are apart -/
def Vars.rising (V : Vars) : Prop := V.R < V.b0 ∧ V.b0 < V.b1 ∧ V.b1 < V.b2 ∧ V.b2 < V.b3 ∧ V.b3 < V.b4 ∧ V.b4 < V.b5 ∧ V.b5 < V.b6 ∧ V.b6 < V.b7

/-- number's variables: the reader, where it began, how many bytes there were, sign and rest -/
structure NumI (V : Vars) (w W : World) (s : ByteArray) (a0 p places sign rest : Int) : Prop where
  grown : w.grownBy W (some V.R)
  reader : ReaderAt W V.R s p
  x0 : Boxed W V.b0 134 (.pointer (some ⟨V.R, 0, none⟩))
  x1 : Boxed W V.b1 3 (.int .i64 0)
  x2 : Boxed W V.b2 86 .nilIface
  x3 : Boxed W V.b3 3 (.int .i64 a0)
  x4 : Boxed W V.b4 3 (.int .i64 places)
  x5 : Boxed W V.b5 3 (.int .i64 sign)
  x6 : Boxed W V.b6 3 (.int .i64 rest)
  x7 : Boxed W V.b7 152 (.pointer (some ⟨V.R, 0, none⟩))

theorem boxed_new' (W : World) (t : TypeId) (v : Value) (B : Nat) (h : W.heap.size = B) : Boxed (W.alloc (.cells #[v] t)) B t v := h ▸ Boxed.new W t v

theorem grownBy_of_below {w W : World} (h : Below w.heap.size w W) (row : Option Nat) : w.grownBy W row := ⟨h.os, h.tape, h.output, h.size, fun k hk _ => h.block k hk⟩

/-- number's variables, as they are laid -/
def numBlocks (w : World) (R : Nat) (a0 : Int) : World :=
  (((((((w.alloc (.cells #[.pointer (some ⟨R, 0, none⟩)] 134)).alloc (.cells #[.int .i64 0] 3)).alloc (.cells #[.nilIface] 86)).alloc (.cells #[.int .i64 a0] 3)).alloc
    (.cells #[.int .i64 0] 3)).alloc (.cells #[.int .i64 0] 3)).alloc (.cells #[.int .i64 0] 3)).alloc (.cells #[.pointer (some ⟨R, 0, none⟩)] 152)

theorem numI_start (w : World) (R : Nat) (s : ByteArray) (a0 : Int) (hR : ReaderAt w R s a0) :
    NumI ⟨R, w.heap.size, w.heap.size + 1, w.heap.size + 1 + 1, w.heap.size + 1 + 1 + 1, w.heap.size + 1 + 1 + 1 + 1, w.heap.size + 1 + 1 + 1 + 1 + 1, w.heap.size + 1 + 1 + 1 + 1 + 1 + 1, w.heap.size + 1 + 1 + 1 + 1 + 1 + 1 + 1⟩ w (numBlocks w R a0) s a0 a0 0 0 0 := by
  have hb : Below w.heap.size w (numBlocks w R a0) := by
    unfold numBlocks
    exact ((((((((Below.refl _ w).alloc (by simp) _).alloc (by simp) _).alloc (by simp; omega) _).alloc (by simp; omega) _).alloc (by simp; omega) _).alloc (by simp; omega) _).alloc (by simp; omega) _).alloc (by simp; omega) _
  exact ⟨grownBy_of_below hb _, (hb.block R hR.lt).trans hR,
      (((((((boxed_new' _ _ _ _ (by simp)).alloc _).alloc _).alloc _).alloc _).alloc _).alloc _).alloc _,
      ((((((boxed_new' _ _ _ _ (by simp)).alloc _).alloc _).alloc _).alloc _).alloc _).alloc _,
      (((((boxed_new' _ _ _ _ (by simp)).alloc _).alloc _).alloc _).alloc _).alloc _,
      ((((boxed_new' _ _ _ _ (by simp)).alloc _).alloc _).alloc _).alloc _,
      (((boxed_new' _ _ _ _ (by simp)).alloc _).alloc _).alloc _,
      ((boxed_new' _ _ _ _ (by simp)).alloc _).alloc _,
      (boxed_new' _ _ _ _ (by simp)).alloc _,
      boxed_new' _ _ _ _ (by simp)⟩

theorem grown_set {w W : World} {r : Option Nat} (h : w.grownBy W r) {b : Nat} (hb : w.heap.size ≤ b) (a : Addr) (ha : a.block = b) (v : Value) : w.grownBy (W.setCell a v) r :=
  ⟨h.os, h.tape, h.output, by simpa using h.size, fun k hk hr => (Below.heap_setCell W a v k (by omega)).trans (h.block k hk hr)⟩
theorem grown_set_row {w W : World} {b : Nat} (h : w.grownBy W (some b)) (a : Addr) (ha : a.block = b) (v : Value) : w.grownBy (W.setCell a v) (some b) :=
  ⟨h.os, h.tape, h.output, by simpa using h.size, fun k hk hr => (Below.heap_setCell W a v k (fun e => hr (by rw [e, ha]))).trans (h.block k hk hr)⟩
theorem grown_below {w W W' : World} {r : Option Nat} (h : w.grownBy W r) (hb : Below W.heap.size W W') : w.grownBy W' r :=
  ⟨hb.os.trans h.os, hb.tape.trans h.tape, hb.output.trans h.output, Nat.le_trans h.size hb.size, fun k hk hr => (hb.block k (Nat.lt_of_lt_of_le hk h.size)).trans (h.block k hk hr)⟩

theorem boxed_past {W : World} {B : Nat} {t : TypeId} {v : Value} (h : Boxed W B t v) (a : Addr) (ha : B ≠ a.block) (u : Value) : Boxed (W.setCell a u) B t v :=
  (Below.heap_setCell W a u B ha).trans h
theorem ReaderAt.past {W : World} {R : Nat} {s : ByteArray} {p : Int} (h : ReaderAt W R s p) (a : Addr) (ha : R ≠ a.block) (u : Value) : ReaderAt (W.setCell a u) R s p :=
  (Below.heap_setCell W a u R ha).trans h
theorem ReaderAt.set {W : World} {R : Nat} {s : ByteArray} {p : Int} (h : ReaderAt W R s p) (q : Int) : ReaderAt (W.setCell ⟨R, 1, none⟩ (.int .i64 q)) R s q := by
  have := heap_setCell_same W R 1 _ _ (.int .i64 q) (show W.heap[R]? = _ from h)
  exact this.trans rfl
theorem boxed_below {W W' : World} {B : Nat} {t : TypeId} {v : Value} (h : Boxed W B t v) (hb : Below W.heap.size W W') : Boxed W' B t v := (hb.block B h.lt).trans h
theorem ReaderAt.below {W W' : World} {R : Nat} {s : ByteArray} {p : Int} (h : ReaderAt W R s p) (hb : Below W.heap.size W W') : ReaderAt W' R s p := (hb.block R h.lt).trans h

section
variable {V : Vars} {w W : World} {s : ByteArray} {a0 p places sign rest : Int}

theorem NumI.below (h : NumI V w W s a0 p places sign rest) {W' : World} (hb : Below W.heap.size W W') : NumI V w W' s a0 p places sign rest :=
  ⟨grown_below h.grown hb, h.reader.below hb, boxed_below h.x0 hb, boxed_below h.x1 hb, boxed_below h.x2 hb, boxed_below h.x3 hb, boxed_below h.x4 hb, boxed_below h.x5 hb, boxed_below h.x6 hb, boxed_below h.x7 hb⟩
theorem NumI.drewN (h : NumI V w W s a0 p places sign rest) (m : Nat) : NumI V w (W.drewN m) s a0 p places sign rest := h.below ⟨rfl, rfl, rfl, Nat.le_refl _, fun _ _ => rfl⟩
theorem NumI.drew (h : NumI V w W s a0 p places sign rest) : NumI V w W.drew s a0 p places sign rest := h.drewN 1
theorem NumI.setR (h : NumI V w W s a0 p places sign rest) (hr : V.rising) (q : Int) : NumI V w (W.setCell ⟨V.R, 1, none⟩ (.int .i64 q)) s a0 q places sign rest := by
  obtain ⟨r0, r1, r2, r3, r4, r5, r6, r7⟩ := hr
  exact ⟨grown_set_row h.grown _ rfl _, h.reader.set q, boxed_past h.x0 _ (by show _ ≠ V.R; omega) _, boxed_past h.x1 _ (by show _ ≠ V.R; omega) _, boxed_past h.x2 _ (by show _ ≠ V.R; omega) _, boxed_past h.x3 _ (by show _ ≠ V.R; omega) _,
    boxed_past h.x4 _ (by show _ ≠ V.R; omega) _, boxed_past h.x5 _ (by show _ ≠ V.R; omega) _, boxed_past h.x6 _ (by show _ ≠ V.R; omega) _, boxed_past h.x7 _ (by show _ ≠ V.R; omega) _⟩
theorem NumI.set4 (h : NumI V w W s a0 p places sign rest) (hr : V.rising) (hw : w.heap.size ≤ V.b0) (q : Int) : NumI V w (W.setCell ⟨V.b4, 0, none⟩ (.int .i64 q)) s a0 p q sign rest := by
  obtain ⟨r0, r1, r2, r3, r4, r5, r6, r7⟩ := hr
  exact ⟨grown_set h.grown (b := V.b4) (by omega) _ rfl _, h.reader.past _ (by show _ ≠ V.b4; omega) _, boxed_past h.x0 _ (by show _ ≠ V.b4; omega) _, boxed_past h.x1 _ (by show _ ≠ V.b4; omega) _, boxed_past h.x2 _ (by show _ ≠ V.b4; omega) _, boxed_past h.x3 _ (by show _ ≠ V.b4; omega) _,
    h.x4.set _, boxed_past h.x5 _ (by show _ ≠ V.b4; omega) _, boxed_past h.x6 _ (by show _ ≠ V.b4; omega) _, boxed_past h.x7 _ (by show _ ≠ V.b4; omega) _⟩
theorem NumI.set5 (h : NumI V w W s a0 p places sign rest) (hr : V.rising) (hw : w.heap.size ≤ V.b0) (q : Int) : NumI V w (W.setCell ⟨V.b5, 0, none⟩ (.int .i64 q)) s a0 p places q rest := by
  obtain ⟨r0, r1, r2, r3, r4, r5, r6, r7⟩ := hr
  exact ⟨grown_set h.grown (b := V.b5) (by omega) _ rfl _, h.reader.past _ (by show _ ≠ V.b5; omega) _, boxed_past h.x0 _ (by show _ ≠ V.b5; omega) _, boxed_past h.x1 _ (by show _ ≠ V.b5; omega) _, boxed_past h.x2 _ (by show _ ≠ V.b5; omega) _, boxed_past h.x3 _ (by show _ ≠ V.b5; omega) _,
    boxed_past h.x4 _ (by show _ ≠ V.b5; omega) _, h.x5.set _, boxed_past h.x6 _ (by show _ ≠ V.b5; omega) _, boxed_past h.x7 _ (by show _ ≠ V.b5; omega) _⟩
theorem NumI.set6 (h : NumI V w W s a0 p places sign rest) (hr : V.rising) (hw : w.heap.size ≤ V.b0) (q : Int) : NumI V w (W.setCell ⟨V.b6, 0, none⟩ (.int .i64 q)) s a0 p places sign q := by
  obtain ⟨r0, r1, r2, r3, r4, r5, r6, r7⟩ := hr
  exact ⟨grown_set h.grown (b := V.b6) (by omega) _ rfl _, h.reader.past _ (by show _ ≠ V.b6; omega) _, boxed_past h.x0 _ (by show _ ≠ V.b6; omega) _, boxed_past h.x1 _ (by show _ ≠ V.b6; omega) _, boxed_past h.x2 _ (by show _ ≠ V.b6; omega) _, boxed_past h.x3 _ (by show _ ≠ V.b6; omega) _,
    boxed_past h.x4 _ (by show _ ≠ V.b6; omega) _, boxed_past h.x5 _ (by show _ ≠ V.b6; omega) _, h.x6.set _, boxed_past h.x7 _ (by show _ ≠ V.b6; omega) _⟩

/-- a turn of a block that is no cells, and a new one, leave all that -/
theorem NumI.own (h : NumI V w W s a0 p places sign rest) {W' : World} {row : Option Nat} (hg : W.grownBy W' row) (hr : ∀ r, row = some r → w.heap.size ≤ r ∧ ∃ o : Obj, W.heap[r]? = some o ∧ o.isCells = false) : NumI V w W' s a0 p places sign rest := by
  have keep : ∀ {b t v}, Boxed W b t v → Boxed W' b t v := fun {b t v} hb => hb.kept hg (fun e => by
    obtain ⟨_, o, ho, hc⟩ := hr b e.symm
    rw [show W.heap[b]? = _ from hb] at ho; cases ho; cases hc)
  refine ⟨⟨hg.os.trans h.grown.os, hg.tape.trans h.grown.tape, hg.output.trans h.grown.output, Nat.le_trans h.grown.size hg.size, fun k hk hne => (hg.block k (Nat.lt_of_lt_of_le hk h.grown.size) (fun e => ?_)).trans (h.grown.block k hk hne)⟩,
    (hg.block V.R h.reader.lt (fun e => ?_)).trans h.reader, keep h.x0, keep h.x1, keep h.x2, keep h.x3, keep h.x4, keep h.x5, keep h.x6, keep h.x7⟩
  · obtain ⟨h1, _⟩ := hr k e.symm; omega
  · obtain ⟨_, o, ho, hc⟩ := hr V.R e.symm
    rw [show W.heap[V.R]? = _ from h.reader] at ho; cases ho; cases hc
end

/-- the bytes of s from a0 on, ahead of p -/
def seg (s : ByteArray) (a0 p : Nat) : List UInt8 := (s.data.toList.drop a0).take (p - a0)

theorem seg_length (s : ByteArray) (a0 p : Nat) (h : a0 ≤ p) (hp : p ≤ s.size) : (seg s a0 p).length = p - a0 := by
  simp only [seg, List.length_take, List.length_drop, Array.length_toList]
  have : s.data.size = s.size := rfl
  omega
theorem seg_snoc (s : ByteArray) (a0 p : Nat) (h : a0 ≤ p) (hp : p < s.size) : seg s a0 (p + 1) = seg s a0 p ++ [s[p]] := by
  unfold seg
  rw [show p + 1 - a0 = (p - a0) + 1 from by omega, List.take_succ_eq_append_getElem (by simp; omega)]
  congr 2
  rw [List.getElem_drop]
  show s.data.toList[a0 + (p - a0)]'_ = _
  simp only [show a0 + (p - a0) = p from by omega]
  rfl

theorem wrap64_w64 (n : Int) : wrap64 n = Wire.w64 n := by unfold wrap64 Wire.w64; rfl

theorem extract_drop (s : ByteArray) (a : Nat) : (s.extract a s.size).data.toList = s.data.toList.drop a := by
  rw [← Lib.toList_data, Lib.extract_toList]
  rw [List.take_of_length_le (by simp)]

/-- between two rounds -/
def numG (V : Vars) (w : World) (s : ByteArray) (a0 p : Nat) (W : World) : Prop :=
  a0 ≤ p ∧ p ≤ s.size ∧ p - a0 < 10 ∧ (∀ b ∈ seg s a0 p, 128 ≤ b.toNat) ∧ NumI V w W s a0 p ((p - a0 : Nat) : Int) (Wire.dec (seg s a0 p)).1 (Wire.dec (seg s a0 p)).2
/-- a byte is handed on -/
def numY (V : Vars) (w : World) (s : ByteArray) (a0 p : Nat) (W : World) : Prop :=
  a0 ≤ p ∧ p < s.size ∧ p - a0 < 10 ∧ (∀ b ∈ seg s a0 p, 128 ≤ b.toNat) ∧ NumI V w W s a0 ((p : Int) + 1) ((p - a0 : Nat) : Int) (Wire.dec (seg s a0 p)).1 (Wire.dec (seg s a0 p)).2
/-- what the results' places hold, and the reader -/
def numE (V : Vars) (w : World) (s : ByteArray) (p : Int) (n : Int) (W : World) : Prop :=
  w.grownBy W (some V.R) ∧ ReaderAt W V.R s p ∧ Boxed W V.b1 3 (.int .i64 n) ∧ Boxed W V.b2 86 .nilIface

theorem numE_own {V : Vars} {w W : World} {s : ByteArray} {p n : Int} (h : numE V w s p n W) {W' : World} {row : Option Nat} (hg : W.grownBy W' row) (hr : ∀ r, row = some r → w.heap.size ≤ r ∧ ∃ o : Obj, W.heap[r]? = some o ∧ o.isCells = false) : numE V w s p n W' := by
  obtain ⟨h1, h2, h3, h4⟩ := h
  have keep : ∀ {b t v}, Boxed W b t v → Boxed W' b t v := fun {b t v} hb => hb.kept hg (fun e => by
    obtain ⟨_, o, ho, hc⟩ := hr b e.symm
    rw [show W.heap[b]? = _ from hb] at ho; cases ho; cases hc)
  refine ⟨⟨hg.os.trans h1.os, hg.tape.trans h1.tape, hg.output.trans h1.output, Nat.le_trans h1.size hg.size, fun k hk hne => (hg.block k (Nat.lt_of_lt_of_le hk h1.size) (fun e => ?_)).trans (h1.block k hk hne)⟩,
    (hg.block V.R h2.lt (fun e => ?_)).trans h2, keep h3, keep h4⟩
  · obtain ⟨h1, _⟩ := hr k e.symm; omega
  · obtain ⟨_, o, ho, hc⟩ := hr V.R e.symm
    rw [show W.heap[V.R]? = _ from h2] at ho; cases ho; cases hc

def numX (V : Vars) (w : World) (s : ByteArray) (a0 : Nat) (c : Code) (x : { p : Nat // p < s.size }) (W : World) : Prop :=
  match c with
  | .ret => ∃ v : Int, Wire.inRange v ∧ Wire.num v <+: s.data.toList.drop a0 ∧ x.1 + 1 = a0 + (Wire.num v).length ∧ numE V w s ((x.1 : Int) + 1) v W
  | .exit 0 => (∀ v : Int, Wire.inRange v → ¬ Wire.num v <+: s.data.toList.drop a0) ∧ ∃ p, numE V w s p 0 W
  | _ => False
def numD (V : Vars) (w : World) (s : ByteArray) (a0 : Nat) (_ : Unit) (W : World) : Prop :=
  (∀ v : Int, Wire.inRange v → ¬ Wire.num v <+: s.data.toList.drop a0) ∧ ∃ p, numE V w s p 0 W

/-- what number answers -/
def numPost (s : ByteArray) (a0 R : Nat) (ea : Addr) (w : World) (e : Ending) (w' : World) : Prop :=
  w.grownBy w' (some R) ∧
  ((∃ v : Int, Wire.inRange v ∧ Wire.num v <+: s.data.toList.drop a0 ∧ e = .returned (.tuple #[.int .i64 v, .nilIface]) ∧ ReaderAt w' R s ((a0 + (Wire.num v).length : Nat) : Int)) ∨
   ((∀ v : Int, Wire.inRange v → ¬ Wire.num v <+: s.data.toList.drop a0) ∧ e = .returned (.tuple #[.int .i64 0, .iface 180 (.pointer (some ea))]) ∧ ∃ q, ReaderAt w' R s q))

theorem drop_get (s : ByteArray) (a0 p : Nat) (h : a0 ≤ p) (hp : p < s.size) : (s.data.toList.drop a0)[p - a0]? = some s[p] := by
  rw [List.getElem?_drop, show a0 + (p - a0) = p from by omega]
  exact List.getElem?_eq_getElem (by simpa using hp)

theorem number_results (W : World) (tmps : Array Value) (b1 b2 : Nat) (v : Int) (x : Value) (h1 : tmps[2]?.getD undef = .pointer (some ⟨b1, 0, none⟩)) (h2 : tmps[3]?.getD undef = .pointer (some ⟨b2, 0, none⟩))
    (c1 : W.cell? ⟨b1, 0, none⟩ = some (.int .i64 v)) (c2 : W.cell? ⟨b2, 0, none⟩ = some x) :
    (results Tryz.f57 tmps).run Tryz.prog W = .ok (.tuple #[.int .i64 v, x]) W := by
  simp only [results, Tryz.f57]
  simp [go_sem, h1, h2, c1, c2]

theorem boxed_put {W : World} {B : Nat} {t : TypeId} {v : Value} (h : Boxed W B t v) {D : Nat} {o : Obj} (o' : Obj) (hD : W.heap[D]? = some o) (ho : o.isCells = false) : Boxed (W.putObj D o') B t v :=
  h.kept (grownBy_putObj' W D o') (fun e => by cases e; rw [show W.heap[B]? = _ from h] at hD; cases hD; cases ho)
theorem reader_put {W : World} {R : Nat} {s : ByteArray} {p : Int} (h : ReaderAt W R s p) {D : Nat} {o : Obj} (o' : Obj) (hD : W.heap[D]? = some o) (ho : o.isCells = false) : ReaderAt (W.putObj D o') R s p :=
  ((grownBy_putObj' W D o').block R h.lt (fun e => by cases e; rw [show W.heap[R]? = _ from h] at hD; cases hD; cases ho)).trans h
theorem grown_put {w W : World} {r : Option Nat} (h : w.grownBy W r) {D : Nat} (hD : w.heap.size ≤ D) (o : Obj) : w.grownBy (W.putObj D o) r :=
  ⟨h.os, h.tape, h.output, by simpa using h.size, fun k hk hne => (World.putObj_heap_other (by omega)).trans (h.block k hk hne)⟩

set_option maxRecDepth 100000 in
set_option maxHeartbeats 2000000 in
theorem number_in (s : ByteArray) (hs : s.size ≤ 9223372036854775807) (R : Nat) (a0 : Nat) (ha : a0 ≤ s.size) (ea : Addr) (w : World) (hR : ReaderAt w R s a0)
    (hE : w.cell? ⟨0, 0, none⟩ = some (.iface 180 (.pointer (some ea)))) (hR0 : R ≠ 0) :
    CallsIn Fence.wide 9 Tryz.prog 57 #[.pointer (some ⟨R, 0, none⟩)] w (numPost s a0 R ea w) := by
  refine callsIn_of_wp_marks Tryz.func57 rfl trivial ?_ rfl
  simp only [Tryz.ntmps57, List.size_toArray, List.length_cons, List.length_nil, Nat.reduceAdd, Nat.reduceSub, Array.replicate_succ, Array.replicate_zero, List.push_toArray, List.append_toArray, List.nil_append, List.cons_append]
  have hlt : R < w.heap.size := hR.lt
  have hmix : Tryz.prog.follows .mixedOrders = true := by kernel_rfl
  have k1 : ∀ o1 o2 o3, (((w.alloc o1).alloc o2).alloc o3).cell? ⟨R, 1, none⟩ = some (.int .i64 (a0 : Int)) := fun o1 o2 o3 =>
    (((((Below.refl w.heap.size w).alloc (Nat.le_refl _) o1).alloc (by simp) o2).alloc (by simp; omega) o3).cell (p := ⟨R, 1, none⟩) hlt).trans hR.cell1
  gi_wp2
  refine wpIn_scope_wide ?_
  gi_wp2
  refine wpIn_label ?_
  gi_wp2_with (refine ⟨trivial, ?_⟩; gi_at_call 79; refine (bytes_in _ _ trivial rfl _ _).mono ?_; rintro e w' ⟨rfl, rfl⟩)
  have hrise : Vars.rising ⟨R, w.heap.size, w.heap.size + 1, w.heap.size + 1 + 1, w.heap.size + 1 + 1 + 1, w.heap.size + 1 + 1 + 1 + 1, w.heap.size + 1 + 1 + 1 + 1 + 1, w.heap.size + 1 + 1 + 1 + 1 + 1 + 1, w.heap.size + 1 + 1 + 1 + 1 + 1 + 1 + 1⟩ := by
    simp only [Vars.rising]; omega
  have hI := numI_start w R s a0 hR
  show Code.wpIn _ _ _ _ _ _ (numBlocks w R a0)
  generalize numBlocks w R a0 = W0 at hI ⊢
  clear k1
  generalize w.heap.size + 1 + 1 + 1 + 1 + 1 + 1 + 1 = b7 at hrise hI ⊢
  generalize w.heap.size + 1 + 1 + 1 + 1 + 1 + 1 = b6 at hrise hI ⊢
  generalize w.heap.size + 1 + 1 + 1 + 1 + 1 = b5 at hrise hI ⊢
  generalize w.heap.size + 1 + 1 + 1 + 1 = b4 at hrise hI ⊢
  generalize w.heap.size + 1 + 1 + 1 = b3 at hrise hI ⊢
  generalize w.heap.size + 1 + 1 = b2 at hrise hI ⊢
  generalize w.heap.size + 1 = b1 at hrise hI ⊢
  generalize hb0 : w.heap.size = b0 at hrise hI ⊢
  have HB := Lib.hid hb0; clear hb0
  refine wpIn_rangeFunc_joint rfl (by decide) (gf := 92) (lb := #[.pointer (some ⟨b7, 0, none⟩)]) rfl trivial (enters_of Tryz.func92 (by kernel_rfl) rfl)
    (fun x : { p : Nat // p < s.size } => #[.int .u8 ((s[x.1]'x.2).toNat : Int)]) (fun _ => rfl)
    (fun x W => numY ⟨R, b0, b1, b2, b3, b4, b5, b6, b7⟩ w s a0 x.1 W) (fun x W => numG ⟨R, b0, b1, b2, b3, b4, b5, b6, b7⟩ w s a0 (x.1 + 1) W) (numX ⟨R, b0, b1, b2, b3, b4, b5, b6, b7⟩ w s a0) (numD ⟨R, b0, b1, b2, b3, b4, b5, b6, b7⟩ w s a0) ?ob ?og ?ox ?od
    (fun x => { tmps := #[.pointer (some ⟨R, 0, none⟩), .pointer (some ⟨b0, 0, none⟩), .pointer (some ⟨b1, 0, none⟩), .pointer (some ⟨b2, 0, none⟩), .pointer (some ⟨b3, 0, none⟩), .pointer (some ⟨b4, 0, none⟩), .pointer (some ⟨b5, 0, none⟩), .pointer (some ⟨b6, 0, none⟩), .int .u8 ((s[x.1]'x.2).toNat : Int), undef, .pointer (some ⟨R, 0, none⟩), .pointer (some ⟨R, 0, none⟩), .pointer (some ⟨R, 0, none⟩), .pointer (some ⟨R, 1, none⟩), .int .i64 (a0 : Int), .pointer (some ⟨R, 0, none⟩), .pointer (some ⟨R, 0, none⟩), .pointer (some ⟨R, 0, none⟩), .func (.func 92) #[] #[.pointer (some ⟨b7, 0, none⟩)], .int .u8 ((s[x.1]'x.2).toNat : Int), undef, undef, undef, undef, undef, undef, undef, undef, undef, undef, undef, undef, undef, undef, undef, undef, undef, undef, undef, undef, undef, undef, undef, undef, undef, undef, undef, undef, undef, undef, undef, undef, undef, undef, undef, undef, undef, undef, undef, undef], defers := [] }) ?assign ?body ?seq ?done ?stop
  case assign =>
    intro l x W K hK
    gi_wp2
    exact hK
  case body =>
    rintro l ⟨p, hp⟩ W ⟨h0, h1, h10, hcont, hn⟩
    have hsn : seg s a0 (p + 1) = seg s a0 p ++ [s[p]'hp] := seg_snoc s a0 p h0 hp
    have hsl : (seg s a0 p).length = p - a0 := seg_length s a0 p h0 (Nat.le_of_lt hp)
    have hdec : Wire.dec (seg s a0 (p + 1)) = Wire.decStep (p - a0) (Wire.dec (seg s a0 p)) (s[p]'hp) := by rw [hsn, Wire.dec_snoc, hsl]
    have hrg := Wire.dec_range (seg s a0 (p + 1))
    have hK0 : KeepsFrom W0.heap.size W W := KeepsFrom.refl _ _
    dsimp only
    generalize hbb : s[p]'hp = bb at hsn hdec ⊢
    have hb8 : (bb.toNat : Int) < 256 := by have := bb.toNat_lt; omega
    generalize hkk : p - a0 = k at hn hdec hsl h10
    generalize hsg : (Wire.dec (seg s a0 (p + 1))).1 = sg1 at hrg
    generalize hrs : (Wire.dec (seg s a0 (p + 1))).2 = rs1 at hrg
    have hd1 : sg1 = (Wire.decStep k (Wire.dec (seg s a0 p)) bb).1 := by rw [← hsg, hdec]
    have hd2 : rs1 = (Wire.decStep k (Wire.dec (seg s a0 p)) bb).2 := by rw [← hrs, hdec]
    generalize (Wire.dec (seg s a0 p)) = D at hn hd1 hd2 hdec
    obtain ⟨sg, rs⟩ := D
    dsimp only at hn
    have H1 := Lib.hid hd1; clear hd1
    have H2 := Lib.hid hd2; clear hd2
    have HD := Lib.hid hdec; clear hdec
    have HS := Lib.hid hsn; clear hsn
    have HL := Lib.hid hsl; clear hsl
    have HK := Lib.hid hkk; clear hkk
    have HBB := Lib.hid hbb; clear hbb
    have HSG := Lib.hid hsg; clear hsg
    have HRS := Lib.hid hrs; clear hrs
    have HC := Lib.hid hcont; clear hcont
    have HRG := Lib.hid hrg; clear hrg
    have hw0 : w.heap.size ≤ b0 := by rw [HB.out]; exact Nat.le_refl _
    have HW0 := Lib.hid hw0; clear hw0
    have y4 : W.cell? ⟨b4, 0, none⟩ = some (.int .i64 (k : Int)) := hn.x4.cell
    have y5 : W.cell? ⟨b5, 0, none⟩ = some (.int .i64 sg) := hn.x5.cell
    have y6 : W.cell? ⟨b6, 0, none⟩ = some (.int .i64 rs) := hn.x6.cell
    have z4 : W.frozen? ⟨b4, 0, none⟩ = false := hn.x4.frozen
    have z5 : W.frozen? ⟨b5, 0, none⟩ = false := hn.x5.frozen
    have z6 : W.frozen? ⟨b6, 0, none⟩ = false := hn.x6.frozen
    gi_upto_if 24 with (fail)
    gi_cut [] from 23 (fun W1 => NumI ⟨R, b0, b1, b2, b3, b4, b5, b6, b7⟩ w W1 s a0 ((p : Int) + 1) (k : Int) sg1 rs1 ∧ KeepsFrom W0.heap.size W W1)
    case first =>
      by_cases hk0 : k = 0
      · have hq : ((k : Int) == 0) = true := by rw [beq_iff_eq]; omega
        have hn5 := hn.set5 hrise HW0.out ((bb.toNat : Int) % 2)
        obtain ⟨n56, n65⟩ : b5 ≠ b6 ∧ b6 ≠ b5 := by have := hrise; simp only [Vars.rising] at this; omega
        gi_wp2
        gi_meet
        case rel =>
          have e1 := H1.out
          have e2 := H2.out
          simp only [Wire.decStep, if_pos hk0] at e1 e2
          refine ⟨?_, ((KeepsOthers.setCell _ _ _).trans (KeepsOthers.setCell _ _ _)).from _⟩
          rw [e1, e2]
          exact hn5.set6 hrise HW0.out _
      · have hq : ((k : Int) == 0) = false := by rw [beq_eq_false_iff_ne]; omega
        gi_wp2
        have m1 : IntKind.i64.wrap (7 * (k : Int)) = 7 * (k : Int) := IntWalk.i64_in _ (by omega)
        have m2 : IntKind.i64.wrap (7 * (k : Int) - 1) = 7 * (k : Int) - 1 := IntWalk.i64_in _ (by omega)
        refine wpIn_region_quiet_tail 7 (by kernel_rfl) (by kernel_rfl) (by kernel_rfl) ?_
        simp only [List.take_succ_cons, List.take_zero, List.drop_succ_cons, List.drop_zero]
        repeat (gi_big_quiet_step (fail))
        refine wpQuietIn_nil ?_
        rintro _ ⟨nq, rfl⟩
        gi_wp2
        gi_meet
        case rel =>
          have e1 := H1.out
          have e2 := H2.out
          simp only [Wire.decStep, if_neg hk0] at e1 e2
          refine ⟨?_, (((⟨Nat.le_refl _, fun _ _ h _ => h⟩ : KeepsOthers W (W.drewN nq))).trans (KeepsOthers.setCell _ _ _)).from _⟩
          simp only [wrap64_w64]
          rw [e1, e2]
          exact (hn.drewN nq).set6 hrise HW0.out _
    case rest =>
      obtain ⟨hn1, hK1⟩ := hcut
      clear hn y4 y5 y6 z4 z5 z6 H1 H2 HD
      have y4 : wc.cell? ⟨b4, 0, none⟩ = some (.int .i64 (k : Int)) := hn1.x4.cell
      have z4 : wc.frozen? ⟨b4, 0, none⟩ = false := hn1.x4.frozen
      have hn2 := hn1.set4 hrise HW0.out ((k : Int) + 1)
      have hK2 : KeepsFrom W0.heap.size W (wc.setCell ⟨b4, 0, none⟩ (.int .i64 ((k : Int) + 1))) := hK1.trans ((KeepsOthers.setCell _ _ _).from _)
      gi_upto_if 38 with (fail)
      generalize wc.setCell ⟨b4, 0, none⟩ (.int .i64 ((k : Int) + 1)) = W2 at hn2 hK2 ⊢
      clear y4 z4 hn1 hK1
      have y4 : W2.cell? ⟨b4, 0, none⟩ = some (.int .i64 ((k : Int) + 1)) := hn2.x4.cell
      have y5 : W2.cell? ⟨b5, 0, none⟩ = some (.int .i64 sg1) := hn2.x5.cell
      have y6 : W2.cell? ⟨b6, 0, none⟩ = some (.int .i64 rs1) := hn2.x6.cell
      have z6 : W2.frozen? ⟨b6, 0, none⟩ = false := hn2.x6.frozen
      by_cases hb : (bb.toNat : Int) < 128
      · have hvr : -9223372036854775808 ≤ -1 - rs1 ∧ -1 - rs1 ≤ 9223372036854775807 := by have := HRG.out; omega
        gi_upto_if 42 with (fail)
        gi_cut [] from 38 (fun W3 => NumI ⟨R, b0, b1, b2, b3, b4, b5, b6, b7⟩ w W3 s a0 ((p : Int) + 1) ((k : Int) + 1) sg1 (Wire.valOf (sg1, rs1)) ∧ KeepsFrom W0.heap.size W W3)
        case first =>
          by_cases hs1 : sg1 = 1
          · have HS1 := Lib.hid hs1
            have hq : (sg1 == 1) = true := by rw [beq_iff_eq]; exact hs1
            clear hs1
            gi_wp2
            gi_meet
            case rel =>
              refine ⟨?_, hK2.trans ((KeepsOthers.setCell _ _ _).from _)⟩
              rw [show Wire.valOf (sg1, rs1) = -1 - rs1 from if_pos HS1.out]
              exact hn2.set6 hrise HW0.out _
          · have HS1 := Lib.hid hs1
            have hq : (sg1 == 1) = false := by rw [beq_eq_false_iff_ne]; exact hs1
            clear hs1
            gi_wp2
            gi_meet
            case rel =>
              rw [show Wire.valOf (sg1, rs1) = rs1 from if_neg HS1.out]
              exact ⟨hn2, hK2⟩
        case rest =>
          obtain ⟨hn3, hK3⟩ := hcut
          clear y4 y5 y6 z6 hn2 hK2 hvr
          have hvd : Wire.valOf (sg1, rs1) = Wire.valOf (Wire.dec (seg s a0 (p + 1))) := by rw [← HSG.out, ← HRS.out]
          have hvr : Wire.inRange (Wire.valOf (sg1, rs1)) := by
            have := HRG.out
            unfold Wire.inRange Wire.valOf; split <;> omega
          generalize Wire.valOf (sg1, rs1) = v at hn3 hvd hvr
          have HVD := Lib.hid hvd; clear hvd
          have HVR := Lib.hid hvr; clear hvr
          have g0 := cell_regrown (show wc.cell? ⟨b0, 0, none⟩ = some (.pointer (some ⟨R, 0, none⟩)) from hn3.x0.cell)
          have gR := cell_regrown (show wc.cell? ⟨R, 0, none⟩ = some (.string s) from hn3.reader.cell0)
          have g3 := cell_regrown (show wc.cell? ⟨b3, 0, none⟩ = some (.int .i64 (a0 : Int)) from hn3.x3.cell)
          have g6 := cell_regrown (show wc.cell? ⟨b6, 0, none⟩ = some (.int .i64 v) from hn3.x6.cell)
          have cN : ∀ d os, CallsIn (Fence.wide.inRound l) (7 - 1) Tryz.prog 41 #[.int .i64 v] (grow (redrawn wc d) os) fun e w'' => e = .returned (.string ⟨(Wire.num v).toArray⟩) ∧ ∃ q : Regrown, w'' = grow (redrawn wc q.d) q.os :=
            fun d os => CallsIn.regrown_of (CallsIn.inRound l (callsIn_wide.2 (num_any v HVR.out.1 HVR.out.2 _)))
          have hnl : (⟨(Wire.num v).toArray⟩ : ByteArray).size ≤ 9223372036854775807 := by
            have := Wire.num_len v HVR.out
            show (Wire.num v).toArray.size ≤ _
            simp; omega
          have hxs : (s.extract a0 s.size).size ≤ 9223372036854775807 := by simp; omega
          have cH : ∀ (t : Bool), decide ((⟨(Wire.num v).toArray⟩ : ByteArray).data.toList <+: (s.extract a0 s.size).data.toList) = t → ∀ d os, CallsIn (Fence.wide.inRound l) (7 - 1) Tryz.prog 80 #[.string (s.extract a0 s.size), .string ⟨(Wire.num v).toArray⟩] (grow (redrawn wc d) os) fun e w'' => e = .returned (.bool t) ∧ ∃ q : Regrown, w'' = grow (redrawn wc q.d) q.os :=
            fun t ht d os => CallsIn.inRound l (callsIn_wide.2 ((hasPrefix_any _ _ hxs hnl _).mono (fun e w'' ⟨he, hw⟩ => ⟨by rw [he, ht], ⟨⟨d, os⟩, hw.symm⟩⟩)))
          by_cases hpre : Wire.num v <+: s.data.toList.drop a0
          · have hd : decide ((⟨(Wire.num v).toArray⟩ : ByteArray).data.toList <+: (s.extract a0 s.size).data.toList) = true := by
              rw [decide_eq_true_iff, extract_drop]; exact hpre
            have cH1 := cH true hd
            clear cH hd
            gi_wp2
            refine wpIn_region_class (fun w' => ∃ q : Regrown, w' = grow (redrawn wc q.d) q.os) (by kernel_rfl) (by kernel_rfl) (by kernel_rfl) ⟨⟨wc.drawn + 1, #[]⟩, by rw [grow_empty]; rfl⟩ ?_
            repeat (refine wpQuietIn_step (fun _ _ _ _ => trivial) (fun K hK => ?_); go_simp; first | (refine hK _ ?_; clear hK K) | (apply Exists.intro; refine ⟨fun _ => ?_, hK _ ?_⟩; (first | exact cN _ _ | exact cH1 _ _); clear hK K))
            refine wpQuietIn_nil ?_
            rintro _ ⟨⟨dq, osq⟩, rfl⟩
            have hbq := below_regrown wc dq osq
            have hn4 := hn3.below hbq
            have hK4 : KeepsFrom W0.heap.size W (grow (redrawn wc dq) osq) := hK3.trans ⟨hbq.size, fun kk o _ hk _ => (hbq.block kk (Array.getElem?_eq_some_iff.1 hk).1).trans hk⟩
            clear g0 gR g3 g6 cN cH1 hbq hn3 hK3
            generalize grow (redrawn wc dq) osq = W4 at hn4 hK4 ⊢
            have y1 : W4.cell? ⟨b1, 0, none⟩ = some (.int .i64 0) := hn4.x1.cell
            have y2 : W4.cell? ⟨b2, 0, none⟩ = some .nilIface := hn4.x2.cell
            have y6 : W4.cell? ⟨b6, 0, none⟩ = some (.int .i64 v) := hn4.x6.cell
            have z1 : W4.frozen? ⟨b1, 0, none⟩ = false := hn4.x1.frozen
            have z2 : W4.frozen? ⟨b2, 0, none⟩ = false := hn4.x2.frozen
            obtain ⟨n12, n21⟩ : b1 ≠ b2 ∧ b2 ≠ b1 := by have := hrise; simp only [Vars.rising] at this; omega
            gi_wp2
            have hrise' := hrise
            obtain ⟨q0, q1, q2, q3, q4, q5, q6, q7⟩ := hrise'
            dsimp only at q0 q1 q2 q3 q4 q5 q6 q7
            have hw0 := HW0.out
            have hun := Wire.num_unique (k := p - a0) (drop_get s a0 p h0 hp) (by rw [HBB.out]; omega) HC.out HVR.out hpre
            refine ⟨hK4.trans (((KeepsOthers.setCell _ _ _).trans (KeepsOthers.setCell _ _ _)).from _), v, HVR.out, hpre, ?_, ?_, ?_, ?_, ?_⟩
            · show p + 1 = a0 + (Wire.num v).length
              have e3 : a0 ≤ p := h0
              omega
            · exact grown_set (grown_set hn4.grown (b := b1) (by omega) _ rfl _) (b := b2) (by omega) _ rfl _
            · exact (hn4.reader.past _ (by show R ≠ b1; omega) _).past _ (by show R ≠ b2; omega) _
            · exact boxed_past (hn4.x1.set _) _ (by show b1 ≠ b2; omega) _
            · exact (boxed_past hn4.x2 ⟨b1, 0, none⟩ (by show b2 ≠ b1; omega) _).set _
          · have hd : decide ((⟨(Wire.num v).toArray⟩ : ByteArray).data.toList <+: (s.extract a0 s.size).data.toList) = false := by
              rw [decide_eq_false_iff_not, extract_drop]; exact hpre
            have cH1 := cH false hd
            clear cH hd
            gi_wp2
            refine wpIn_region_class (fun w' => ∃ q : Regrown, w' = grow (redrawn wc q.d) q.os) (by kernel_rfl) (by kernel_rfl) (by kernel_rfl) ⟨⟨wc.drawn + 1, #[]⟩, by rw [grow_empty]; rfl⟩ ?_
            repeat (refine wpQuietIn_step (fun _ _ _ _ => trivial) (fun K hK => ?_); go_simp; first | (refine hK _ ?_; clear hK K) | (apply Exists.intro; refine ⟨fun _ => ?_, hK _ ?_⟩; (first | exact cN _ _ | exact cH1 _ _); clear hK K))
            refine wpQuietIn_nil ?_
            rintro _ ⟨⟨dq, osq⟩, rfl⟩
            have hbq := below_regrown wc dq osq
            have hn4 := hn3.below hbq
            have hK4 : KeepsFrom W0.heap.size W (grow (redrawn wc dq) osq) := hK3.trans ⟨hbq.size, fun kk o _ hk _ => (hbq.block kk (Array.getElem?_eq_some_iff.1 hk).1).trans hk⟩
            clear g0 gR g3 g6 cN cH1 hbq hn3 hK3
            generalize grow (redrawn wc dq) osq = W4 at hn4 hK4 ⊢
            gi_wp2
            refine ⟨hK4, fun v' hv' h' => ?_, _, hn4.grown, hn4.reader, hn4.x1, hn4.x2⟩
            have hun := Wire.num_unique (k := p - a0) (drop_get s a0 p h0 hp) (by rw [HBB.out]; omega) HC.out hv' h'
            refine hpre ?_
            have e3 : a0 ≤ p := h0
            have : (s.data.toList.drop a0).take (p - a0 + 1) = seg s a0 (p + 1) := by unfold seg; rw [show p + 1 - a0 = p - a0 + 1 from by omega]
            rw [this, ← HVD.out] at hun
            rw [← hun.1]; exact h'
      · have hcont1 : ∀ b ∈ seg s a0 (p + 1), 128 ≤ b.toNat := by
          rw [HS.out]
          intro b hbm
          rcases List.mem_append.1 hbm with h | h
          · exact HC.out b h
          · rw [List.mem_singleton.1 h]; omega
        have HC1 := Lib.hid hcont1; clear hcont1
        by_cases hk9 : (k : Int) + 1 = 10
        · have hq : ((k : Int) + 1 == 10) = true := by rw [beq_iff_eq]; omega
          have HK9 := Lib.hid hk9; clear hk9
          gi_wp2
          refine ⟨hK2, fun v hv => ?_, (p : Int) + 1, hn2.grown, hn2.reader, hn2.x1, hn2.x2⟩
          refine Wire.num_none (k := p + 1 - a0) HC1.out (.inl ?_) v hv
          have e1 := HK.out
          have e2 := HK9.out
          have e3 : a0 ≤ p := h0
          omega
        · have hq : ((k : Int) + 1 == 10) = false := by rw [beq_eq_false_iff_ne]; omega
          gi_wp2
          have e1 := HK.out
          have e3 : a0 ≤ p := h0
          have e4 : p < s.size := hp
          refine ⟨hK2, ?_, ?_, ?_, HC1.out, ?_⟩
          · show a0 ≤ p + 1; omega
          · show p + 1 ≤ s.size; omega
          · show p + 1 - a0 < 10; omega
          · show NumI _ _ _ _ _ ((p + 1 : Nat) : Int) ((p + 1 - a0 : Nat) : Int) (Wire.dec (seg s a0 (p + 1))).1 (Wire.dec (seg s a0 (p + 1))).2
            rw [HSG.out, HRS.out, show ((p + 1 : Nat) : Int) = (p : Int) + 1 from by omega, show ((p + 1 - a0 : Nat) : Int) = (k : Int) + 1 from by omega]
            exact hn2
  case ob =>
    intro x A B row ⟨h1, h2, h3, h4, h5⟩ hg hr
    exact ⟨h1, h2, h3, h4, h5.own hg (fun r e => ⟨Nat.le_trans hI.grown.size (hr r e).1, (hr r e).2⟩)⟩
  case og =>
    intro x A B row ⟨h1, h2, h3, h4, h5⟩ hg hr
    exact ⟨h1, h2, h3, h4, h5.own hg (fun r e => ⟨Nat.le_trans hI.grown.size (hr r e).1, (hr r e).2⟩)⟩
  case ox =>
    intro c x A B row h hg hr
    have hr' : ∀ r, row = some r → w.heap.size ≤ r ∧ ∃ o : Obj, A.heap[r]? = some o ∧ o.isCells = false := fun r e => ⟨Nat.le_trans hI.grown.size (hr r e).1, (hr r e).2⟩
    unfold numX at h ⊢
    split at h
    · obtain ⟨v, h1, h2, h3, h4⟩ := h
      exact ⟨v, h1, h2, h3, numE_own h4 hg hr'⟩
    · obtain ⟨h1, q, h4⟩ := h
      exact ⟨h1, q, numE_own h4 hg hr'⟩
    · exact h.elim
  case od =>
    intro x A B row ⟨h1, q, h4⟩ hg hr
    exact ⟨h1, q, numE_own h4 hg (fun r e => ⟨Nat.le_trans hI.grown.size (hr r e).1, (hr r e).2⟩)⟩
  case seq =>
    intro l K Jx W hKB hK hgr hY
    refine (bytes1_in 8 l R b7 s hs a0 ha (fun p W => numG ⟨R, b0, b1, b2, b3, b4, b5, b6, b7⟩ w s a0 p W ∧ K W) (fun p W => numY ⟨R, b0, b1, b2, b3, b4, b5, b6, b7⟩ w s a0 p W ∧ K W) Jx ?_ ?_ ?_ ?_ ?_ ?_ W ?_).mono ?_
    · rintro p W ⟨⟨_, _, _, _, hn⟩, _⟩
      exact ⟨hn.x7.cell, hn.reader.cell0, hn.reader.cell1, hn.reader.frozen 1⟩
    · rintro p W ⟨⟨_, _, _, _, hn⟩, _⟩
      exact ⟨hn.x7.cell, hn.reader.cell0, hn.reader.cell1⟩
    · rintro p W ⟨⟨h1, h2, h3, h4, hn⟩, hk⟩ hp
      exact ⟨⟨h1, hp, h3, h4, hn.setR hrise _⟩, hKB.setCell hk hn.reader.cell1 _⟩
    · rintro p W m ⟨⟨h1, h2, h3, h4, hn⟩, hk⟩
      exact ⟨⟨h1, h2, h3, h4, hn.drewN m⟩, hKB.drewN hk m⟩
    · rintro p W m ⟨⟨h1, h2, h3, h4, hn⟩, hk⟩
      exact ⟨⟨h1, h2, h3, h4, hn.drewN m⟩, hKB.drewN hk m⟩
    · rintro p W hp ⟨hy, hk⟩
      exact hY ⟨p, hp⟩ W hy hk
    · have hseg : seg s a0 a0 = [] := by simp [seg]
      refine ⟨⟨Nat.le_refl _, ha, by omega, by rw [hseg]; simp, ?_⟩, hK⟩
      rw [hseg, Nat.sub_self]
      exact hI.own hgr (fun r e => by cases e)
    · rintro e W' ⟨hv, (⟨⟨h1, h2, h3, h4, hn⟩, hk⟩ | hx)⟩
      · exact ⟨hv, .inl ⟨⟨fun v hv' => Wire.num_none (k := s.size - a0) h4 (.inr (by simp)) v hv', _, hn.grown, hn.reader, hn.x1, hn.x2⟩, hk⟩⟩
      · exact ⟨hv, .inr hx⟩
  case done =>
    rintro D W hD ⟨hno, q, hg, hr, h1, h2⟩ hKd
    have hev : W.cell? ⟨0, 0, none⟩ = some (.iface 180 (.pointer (some ea))) := (World.cell?_of_block (hg.block 0 (by have := World.block_lt_of_cell? _ _ hE; exact this) (by simpa using hR0.symm))).trans hE
    have hrise' := hrise
    obtain ⟨q0, q1, q2, q3, q4, q5, q6, q7⟩ := hrise'
    dsimp only at q0 q1 q2 q3 q4 q5 q6 q7
    have hw0 : w.heap.size ≤ b0 := by rw [HB.out]; exact Nat.le_refl _
    have hb0 : 0 < w.heap.size := World.block_lt_of_cell? _ _ hE
    have n01 : (0 : Nat) ≠ b1 := by omega
    have n10 : b1 ≠ 0 := by omega
    have n12 : b1 ≠ b2 := by omega
    have n21 : b2 ≠ b1 := by omega
    have y1 := h1.cell
    have y2 := h2.cell
    have z1 := h1.frozen
    have z2 := h2.frozen
    dsimp only at y1 y2 z1 z2
    have f1 : w.grownBy (((W.setCell ⟨b1, 0, none⟩ (.int .i64 0)).setCell ⟨b2, 0, none⟩ (.iface 180 (.pointer (some ea)))).drew) (some R) := grown_below (grown_set (grown_set hg (b := b1) (by omega) ⟨b1, 0, none⟩ rfl (.int .i64 0)) (b := b2) (by omega) ⟨b2, 0, none⟩ rfl (.iface 180 (.pointer (some ea)))) ⟨rfl, rfl, rfl, Nat.le_refl _, fun _ _ => rfl⟩
    have f2 : ReaderAt (((W.setCell ⟨b1, 0, none⟩ (.int .i64 0)).setCell ⟨b2, 0, none⟩ (.iface 180 (.pointer (some ea)))).drew) R s q := (hr.past ⟨b1, 0, none⟩ (by show R ≠ b1; omega) _).past ⟨b2, 0, none⟩ (by show R ≠ b2; omega) _
    have f3 : Boxed (((W.setCell ⟨b1, 0, none⟩ (.int .i64 0)).setCell ⟨b2, 0, none⟩ (.iface 180 (.pointer (some ea)))).drew) b1 3 (.int .i64 0) := boxed_past (h1.set (.int .i64 0)) ⟨b2, 0, none⟩ (by show b1 ≠ b2; omega) _
    have f4 : Boxed (((W.setCell ⟨b1, 0, none⟩ (.int .i64 0)).setCell ⟨b2, 0, none⟩ (.iface 180 (.pointer (some ea)))).drew) b2 86 (.iface 180 (.pointer (some ea))) := (boxed_past h2 ⟨b1, 0, none⟩ (by show b2 ≠ b1; omega) _).set _
    have f5 : (((W.setCell ⟨b1, 0, none⟩ (.int .i64 0)).setCell ⟨b2, 0, none⟩ (.iface 180 (.pointer (some ea)))).drew).heap[D]? = some (.deferred (some [])) := ((KeepsOthers.setCell _ _ _).trans (KeepsOthers.setCell _ _ _)).same D _ hKd rfl
    have F5 := Lib.hid f5
    clear q0 q1 q2 q3 q4 q5 q6 q7 hw0 hb0 f5
    gi_wp2
    gi_region
    all_goals
      gi_wp2
      refine ⟨by simp, .inl ⟨_, _, rfl, run_takeDeferred F5.out, ?_⟩⟩
      exact ⟨_, number_results _ _ b1 b2 0 _ rfl rfl (boxed_put f3 _ F5.out rfl).cell (boxed_put f4 _ F5.out rfl).cell, grown_put f1 (Nat.le_trans hI.grown.size hD) _, .inr ⟨hno, rfl, q, reader_put f2 _ F5.out rfl⟩⟩
  case stop =>
    rintro D c x W hD hx hKd
    unfold numX at hx
    split at hx
    · obtain ⟨v, hv1, hv2, hv3, hg, hr, h1, h2⟩ := hx
      gi_wp2
      refine ⟨by simp, .inl ⟨_, _, rfl, run_takeDeferred hKd, ?_⟩⟩
      refine ⟨_, number_results _ _ b1 b2 v .nilIface rfl rfl (boxed_put h1 _ hKd rfl).cell (boxed_put h2 _ hKd rfl).cell, grown_put hg (Nat.le_trans hI.grown.size hD) _, .inl ⟨v, hv1, hv2, rfl, ?_⟩⟩
      have := reader_put hr (.deferred none) hKd rfl
      rw [← hv3]
      exact this
    · obtain ⟨hno, q, hg, hr, h1, h2⟩ := hx
      have hev : W.cell? ⟨0, 0, none⟩ = some (.iface 180 (.pointer (some ea))) := (World.cell?_of_block (hg.block 0 (by have := World.block_lt_of_cell? _ _ hE; exact this) (by simpa using hR0.symm))).trans hE
      have hrise' := hrise
      obtain ⟨q0, q1, q2, q3, q4, q5, q6, q7⟩ := hrise'
      dsimp only at q0 q1 q2 q3 q4 q5 q6 q7
      have hw0 : w.heap.size ≤ b0 := by rw [HB.out]; exact Nat.le_refl _
      have hb0 : 0 < w.heap.size := World.block_lt_of_cell? _ _ hE
      have n01 : (0 : Nat) ≠ b1 := by omega
      have n10 : b1 ≠ 0 := by omega
      have n12 : b1 ≠ b2 := by omega
      have n21 : b2 ≠ b1 := by omega
      have y1 := h1.cell
      have y2 := h2.cell
      have z1 := h1.frozen
      have z2 := h2.frozen
      dsimp only at y1 y2 z1 z2
      have f1 : w.grownBy (((W.setCell ⟨b1, 0, none⟩ (.int .i64 0)).setCell ⟨b2, 0, none⟩ (.iface 180 (.pointer (some ea)))).drew) (some R) := grown_below (grown_set (grown_set hg (b := b1) (by omega) ⟨b1, 0, none⟩ rfl (.int .i64 0)) (b := b2) (by omega) ⟨b2, 0, none⟩ rfl (.iface 180 (.pointer (some ea)))) ⟨rfl, rfl, rfl, Nat.le_refl _, fun _ _ => rfl⟩
      have f2 : ReaderAt (((W.setCell ⟨b1, 0, none⟩ (.int .i64 0)).setCell ⟨b2, 0, none⟩ (.iface 180 (.pointer (some ea)))).drew) R s q := (hr.past ⟨b1, 0, none⟩ (by show R ≠ b1; omega) _).past ⟨b2, 0, none⟩ (by show R ≠ b2; omega) _
      have f3 : Boxed (((W.setCell ⟨b1, 0, none⟩ (.int .i64 0)).setCell ⟨b2, 0, none⟩ (.iface 180 (.pointer (some ea)))).drew) b1 3 (.int .i64 0) := boxed_past (h1.set (.int .i64 0)) ⟨b2, 0, none⟩ (by show b1 ≠ b2; omega) _
      have f4 : Boxed (((W.setCell ⟨b1, 0, none⟩ (.int .i64 0)).setCell ⟨b2, 0, none⟩ (.iface 180 (.pointer (some ea)))).drew) b2 86 (.iface 180 (.pointer (some ea))) := (boxed_past h2 ⟨b1, 0, none⟩ (by show b2 ≠ b1; omega) _).set _
      have f5 : (((W.setCell ⟨b1, 0, none⟩ (.int .i64 0)).setCell ⟨b2, 0, none⟩ (.iface 180 (.pointer (some ea)))).drew).heap[D]? = some (.deferred (some [])) := ((KeepsOthers.setCell _ _ _).trans (KeepsOthers.setCell _ _ _)).same D _ hKd rfl
      have F5 := Lib.hid f5
      clear q0 q1 q2 q3 q4 q5 q6 q7 hw0 hb0 f5
      gi_wp2
      gi_region
      all_goals
        gi_wp2
        refine ⟨by simp, .inl ⟨_, _, rfl, run_takeDeferred F5.out, ?_⟩⟩
        exact ⟨_, number_results _ _ b1 b2 0 _ rfl rfl (boxed_put f3 _ F5.out rfl).cell (boxed_put f4 _ F5.out rfl).cell, grown_put f1 (Nat.le_trans hI.grown.size hD) _, .inr ⟨hno, rfl, q, reader_put f2 _ F5.out rfl⟩⟩
    · exact hx.elim
end Go.Proofs.YtffoklhopmhjaaaGreatDoor

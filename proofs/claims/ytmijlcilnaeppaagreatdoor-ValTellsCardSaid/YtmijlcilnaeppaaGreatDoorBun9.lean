/- Texts put together: DecList, Decode, DecTop. -/
import Derived.Deep.AppendLies
import Derived.OwnWalk
import Derived.RangeFuncRecord
import Derived.Test.YtmijlcilnaeppaaGreatDoorDecValZ
import Derived.Test.YtmijlcilnaeppaaGreatDoorBun7
import Derived.BigRegion
import Derived.Deep.WholeRow
/- (val.reader).list. -/
set_option linter.unusedSimpArgs false
set_option linter.unusedVariables false
namespace Go.Proofs.YtmijlcilnaeppaaGreatDoor
open Go Go.RowKit Go.Shelf Go.Sort

/-- cells of a value that is no list -/
def Itm (u : V) (y : It) : Prop := u.flatOk = true ∧ y.k = u.k ∧ y.n = u.n ∧ y.s = u.s ∧ y.m = 0
theorem Itm.at {u : V} {y : It} (h : Itm u y) (d : Nat) (W : World) : VAt d W u y := by
  obtain ⟨h0, h1, h2, h3, h4⟩ := h
  have hl : u.l = [] := List.eq_nil_of_length_eq_zero (flatOk_parts h0).2.2.1
  obtain ⟨k, n, s, p, m, c⟩ := y
  simp only at h1 h2 h3 h4
  subst h4
  have ht : ∀ J, VTop W u ⟨k, n, s, p, 0, c⟩ J := fun J => ⟨flat_fine h0, h1, h2, h3, [], by rw [hl]; rfl, ⟨rfl, .inl ⟨rfl, p, c, rfl⟩⟩, fun i h => absurd h (by simp)⟩
  cases d with
  | zero => exact ht _
  | succ d => exact ht _
theorem Itm.of {d : Nat} {W : World} {u : V} {y : It} (h : VAt d W u y) (hf : u.flatOk = true) : Itm u y := by
  have t := h.top
  exact ⟨hf, t.2.1, t.2.2.1, t.2.2.2.1, by rw [t.len]; exact (flatOk_parts hf).2.2.1⟩

theorem decIn_err {l : List UInt8} {e : Int} (h : decIn l = .error e) : e = 10 ∨ e = 30 := by
  unfold decIn at h
  repeat' split at h
  all_goals first | (cases h; exact .inl rfl) | (cases h; exact .inr rfl) | cases h
theorem decIn_ok {l : List UInt8} {u : V} {n : Nat} (h : decIn l = .ok (u, n)) : u.flatOk = true := by
  unfold decIn at h
  repeat' split at h
  all_goals first | (cases h; assumption) | (cases h; rfl) | cases h
theorem decIn_le {l : List UInt8} {u : V} {n : Nat} (h : decIn l = .ok (u, n)) : n ≤ l.length := by
  have nl : ∀ {l : List UInt8} {v : Int}, numL l = some v → (Wire.num v).length ≤ l.length := fun h => (numL_some h).2.length_le
  have tl : ∀ {l t : List UInt8}, textL l = some t → (Wire.num t.length).length + t.length ≤ l.length := fun h => by have := (textL_some h).2.length_le; rwa [List.length_append] at this
  unfold decIn at h
  split at h
  · cases h
  · rename_i k hk
    have h1 := nl hk
    split at h
    · split at h
      · cases h
      · rename_i n' hn
        have h2 := nl hn
        rw [List.length_drop] at h2
        split at h <;> cases h
        omega
    · split at h
      · split at h
        · cases h
        · rename_i t ht
          have h2 := tl ht
          rw [List.length_drop] at h2
          split at h <;> cases h
          omega
      · split at h <;> cases h
        exact h1
theorem decMany_more : ∀ (k : Nat) (l : List UInt8) (us : List V) (q : Nat), decMany k l = .ok (us, q) → decMany (k + 1) l = match decIn (l.drop q) with
    | .error e => .error e
    | .ok (u, r) => .ok (us ++ [u], q + r)
  | 0, l, us, q, h => by
    cases h
    rw [decMany_succ, List.drop_zero]
    cases decIn l with
    | error e => rfl
    | ok x =>
      obtain ⟨u, r⟩ := x
      simp [decMany]
  | k + 1, l, us, q, h => by
    rw [decMany_succ] at h
    rw [decMany_succ]
    cases h1 : decIn l with
    | error e => rw [h1] at h; cases h
    | ok x =>
      obtain ⟨u, r⟩ := x
      rw [h1] at h
      simp only at h ⊢
      cases h2 : decMany k (l.drop r) with
      | error e => rw [h2] at h; cases h
      | ok y =>
        obtain ⟨us', q'⟩ := y
        rw [h2] at h
        simp only at h
        cases h
        rw [decMany_more k (l.drop r) us' q' h2, List.drop_drop]
        cases decIn (l.drop (r + q')) with
        | error e => rfl
        | ok z => simp [Nat.add_assoc]
theorem decMany_err : ∀ (k n : Nat) (l : List UInt8) (e : Int), decMany k l = .error e → k ≤ n → decMany n l = .error e
  | 0, n, l, e, h, _ => by cases h
  | k + 1, 0, l, e, h, hn => by omega
  | k + 1, n + 1, l, e, h, hn => by
    rw [decMany_succ] at h ⊢
    cases h1 : decIn l with
    | error e' => rw [h1] at h; simpa using h
    | ok x =>
      obtain ⟨u, r⟩ := x
      rw [h1] at h
      simp only at h ⊢
      cases h2 : decMany k (l.drop r) with
      | error e' =>
        rw [h2] at h
        rw [decMany_err k n _ e' h2 (by omega)]
        exact h
      | ok y => rw [h2] at h; cases h
theorem decMany_len : ∀ (k : Nat) (l : List UInt8) (us : List V) (q : Nat), decMany k l = .ok (us, q) → us.length = k ∧ q ≤ l.length ∧ ∀ u ∈ us, u.flatOk = true
  | 0, l, us, q, h => by cases h; exact ⟨rfl, Nat.zero_le _, by simp⟩
  | k + 1, l, us, q, h => by
    rw [decMany_succ] at h
    cases h1 : decIn l with
    | error e' => rw [h1] at h; cases h
    | ok x =>
      obtain ⟨u, r⟩ := x
      rw [h1] at h
      simp only at h
      cases h2 : decMany k (l.drop r) with
      | error e' => rw [h2] at h; cases h
      | ok y =>
        obtain ⟨us', q'⟩ := y
        rw [h2] at h
        cases h
        obtain ⟨a, b, c⟩ := decMany_len k _ _ _ h2
        have := decIn_le h1
        rw [List.length_drop] at b
        refine ⟨by simp [a], by omega, ?_⟩
        intro v hv
        rcases List.mem_cons.1 hv with rfl | hv
        · exact decIn_ok h1
        · exact c v hv

noncomputable def decList (l : List UInt8) : Except Int (List V × Nat) :=
  match numL l with
  | none => .error 10
  | some n =>
    if n < 0 ∨ 12 < n then .error 30
    else
      match decMany n.toNat (l.drop (Wire.num n).length) with
      | .error e => .error e
      | .ok (us, r) => .ok (us, (Wire.num n).length + r)
/-- what list answers -/
def listPost (r : Except Int (List V × Nat)) (w0 : World) (ea : Addr) (s : ByteArray) (Sb Ab p : Nat) (W : World) (e : Ending) (W' : World) : Prop :=
  Kept Ab W W' ∧ match r with
    | .error n => e = .returned (.tuple #[.slice none 0 0, .int .i64 n]) ∧ ∃ q, Rd w0 ea s Sb Ab q W'
    | .ok (us, n) => Rd w0 ea s Sb Ab (p + n) W' ∧ ∃ (v : Value) (ys : List It), e = .returned (.tuple #[v, .int .i64 0]) ∧ ys.length = us.length ∧ Lies W' v ys.length 4 (itsCells ys) ∧ (∀ (i : Nat) (h : i < ys.length) (h' : i < us.length), Itm us[i] ys[i]) ∧ ∀ a m c, v = .slice (some a) m c → W.heap.size ≤ a.block

/-- the reader's box, behind a call -/
structure One (W0 : World) (Sb Ab : Nat) (W : World) : Prop where
  hA : Ab < W0.heap.size
  rd : W.heap[W0.heap.size]? = some (.cells #[numFn Sb Ab, textFn Sb Ab] 77 (0, 0))
  kept : Kept Ab W0 W
theorem One.new {W0 : World} {Sb Ab : Nat} (hA : Ab < W0.heap.size) : One W0 Sb Ab (W0.alloc (.cells #[numFn Sb Ab, textFn Sb Ab] 77)) :=
  ⟨hA, World.alloc_heap_new _ _, grownBy_of_below ((Below.refl _ _).alloc (Nat.le_refl _) _) _⟩
theorem One.go {W0 : World} {Sb Ab : Nat} {W W' : World} (h : One W0 Sb Ab W) (hk : Kept Ab W W') : One W0 Sb Ab W' := by
  have hA := h.hA
  have hlt := (Array.getElem?_eq_some_iff.1 h.rd).1
  exact ⟨hA, (hk.block _ hlt (fun e => by have := Option.some.inj e; omega)).trans h.rd, h.kept.trans hk⟩
theorem One.below {W0 : World} {Sb Ab : Nat} {W W' : World} (h : One W0 Sb Ab W) (hb : Below W.heap.size W W') : One W0 Sb Ab W' := h.go (grownBy_of_below hb _)
theorem One.cells {W0 : World} {Sb Ab : Nat} {W : World} (h : One W0 Sb Ab W) : W.cell? ⟨W0.heap.size, 0, none⟩ = some (numFn Sb Ab) ∧ W.cell? ⟨W0.heap.size, 1, none⟩ = some (textFn Sb Ab) := by
  constructor <;> (rw [Lib.cell_of_heap h.rd]; rfl)
theorem One.lt {W0 : World} {Sb Ab : Nat} {W : World} (h : One W0 Sb Ab W) : W0.heap.size < W.heap.size := (Array.getElem?_eq_some_iff.1 h.rd).1

theorem own_kept {W0 W W' : World} {Ab : Nat} {e : TypeId} {size n : Nat} {v : Value} {xs : List Value} (h : W.ownsRow (W0.heap.size + 1) e size v n xs) (hA : Ab < W0.heap.size) (hk : Kept Ab W W') : W'.ownsRow (W0.heap.size + 1) e size v n xs := by
  refine h.kept hk ?_
  rcases h.2 with ⟨rfl, _⟩ | ⟨g, cap, cur, rfl, hg, _⟩
  · exact .inl rfl
  · refine .inr ?_
    show some g ≠ some Ab
    intro e
    have := Option.some.inj e
    omega

theorem Rd.grown {w0 : World} {ea : Addr} {s : ByteArray} {Sb Ab p : Nat} {W W' : World} {row : Option Nat} (h : Rd w0 ea s Sb Ab p W) (hg : W.grownBy W' row) (hr : ∀ g, row = some g → g ≠ Sb ∧ g ≠ Ab ∧ w0.heap.size ≤ g) : Rd w0 ea s Sb Ab p W' :=
  ⟨h.hs, h.t0, h.e0, ⟨hg.os.trans h.b0.os, hg.tape.trans h.b0.tape, hg.output.trans h.b0.output, Nat.le_trans h.b0.size hg.size, fun k hk => (hg.block k (Nat.lt_of_lt_of_le hk h.b0.size) (fun e => by have := (hr k e.symm).2.2; omega)).trans (h.b0.block k hk)⟩, h.ls, h.la, h.ne,
    (hg.block _ h.lts (fun e => (hr _ e.symm).1 rfl)).trans h.sb, (hg.block _ h.lt (fun e => (hr _ e.symm).2.1 rfl)).trans h.ab, h.hp⟩
theorem One.grown {W0 W W' : World} {Sb Ab : Nat} {row : Option Nat} (h : One W0 Sb Ab W) (hg : W.grownBy W' row) (hr : ∀ g, row = some g → W0.heap.size < g) : One W0 Sb Ab W' :=
  ⟨h.hA, (hg.block _ h.lt (fun e => by have := hr _ e.symm; omega)).trans h.rd,
   ⟨hg.os.trans h.kept.os, hg.tape.trans h.kept.tape, hg.output.trans h.kept.output, Nat.le_trans h.kept.size hg.size, fun k hk hne => (hg.block k (Nat.lt_of_lt_of_le hk h.kept.size) (fun e => by have := hr _ e.symm; omega)).trans (h.kept.block k hk hne)⟩⟩

theorem infoVal : (Tryz.prog.info? 30).map (fun i => (i.zero, i.size, i.bytes)) = some (some (.agg #[.int .i64 0, .int .i64 0, .string ⟨#[]⟩, .slice none 0 0]), 4, 56) := by kernel_rfl
theorem itsCells_append (xs ys : List It) : itsCells (xs ++ ys) = itsCells xs ++ itsCells ys := by
  induction xs with
  | nil => rfl
  | cons x xs ih => show x.cells ++ itsCells (xs ++ ys) = _; rw [ih]; simp [itsCells]
/-- a round of the list -/
def ListI (w0 : World) (ea : Addr) (s : ByteArray) (Sb Ab p2 : Nat) (W0 : World) (l : List UInt8) (k : Nat) (v : Value) (wr : World) : Prop :=
  ∃ (us : List V) (q : Nat) (ys : List It), decMany k l = .ok (us, q) ∧ ys.length = k ∧ wr.ownsRow (W0.heap.size + 1) 30 4 v k (itsCells ys) ∧ (∀ (i : Nat) (h : i < ys.length) (h' : i < us.length), Itm us[i] ys[i]) ∧ Rd w0 ea s Sb Ab (p2 + q) wr ∧ One W0 Sb Ab wr

set_option maxHeartbeats 4000000 in
set_option maxRecDepth 100000 in
theorem list_good (w0 : World) (ea : Addr) (s : ByteArray) (Sb Ab p : Nat) (W : World) (h : Rd w0 ea s Sb Ab p W) (n : Nat) (hn : numL (s.data.toList.drop p) = some (n : Int)) (hn12 : n ≤ 12) :
    Calls Tryz.prog 78 #[rdr Sb Ab] W (listPost (decList (s.data.toList.drop p)) w0 ea s Sb Ab p W) := by
  obtain ⟨i0, hi, hz0, hz1, hz2⟩ := info_parts infoVal
  have hlt := h.lt
  have h2 := One.new (W0 := W) (Sb := Sb) (Ab := Ab) hlt
  have hc := decNum w0 ea s Sb Ab p _ (h.below ((Below.refl _ _).alloc (Nat.le_refl _) (.cells #[numFn Sb Ab, textFn Sb Ab] 77)))
  unfold decNumPost at hc
  rw [hn] at hc
  simp only at hc
  generalize hres : decList (s.data.toList.drop p) = res
  have hres2 : res = match decMany n (s.data.toList.drop (p + (Wire.num (n : Int)).length)) with
      | .error e => .error e
      | .ok (us, r) => .ok (us, (Wire.num (n : Int)).length + r) := by
    rw [← hres]
    unfold decList
    rw [hn]
    simp only [List.drop_drop]
    rw [if_neg (by omega), Int.toNat_natCast]
  generalize hp2 : p + (Wire.num (n : Int)).length = p2 at hc hres2
  have HP := Lib.hid hp2
  have HRES := Lib.hid hres2
  have H := Lib.hid h
  have H2 := Lib.hid h2
  clear h h2 hn hres hres2 hp2
  go_enter Tryz.func78, Tryz.ntmps78
  go_wp2_with fail
  refine hc.mono ?_
  rintro e W1 ⟨hk1, rfl, hR1⟩
  have hO := H2.out.go hk1
  have hI0 : ListI w0 ea s Sb Ab p2 W (s.data.toList.drop p2) 0 (.slice none 0 0) W1 := ⟨[], 0, [], rfl, rfl, World.ownsRow_nil _ _ _ _, fun i h => absurd h (by simp), hR1, hO⟩
  clear hc hk1 hR1 hO
  go_wp2_with fail
  go_loopw [6, 25] (fun v i wr => ∃ k : Nat, k ≤ n ∧ i = .int .i64 (k : Int) ∧ ListI w0 ea s Sb Ab p2 W (s.data.toList.drop p2) k v wr) (fun _ i _ => n - (intOf i).toNat)
  case atStart => exact ⟨0, by omega, rfl, hI0⟩
  case round =>
    obtain ⟨k, hk, rfl, us, q, ys, hd, hy, hown, hit, hR, hO⟩ := hrel
    obtain ⟨r0, r1⟩ := hO.cells
    have hzl := hO.lt
    by_cases hkn : k < n
    · have hv := value_flat false w0 ea s Sb Ab (p2 + q) _ hR (fun _ _ => .inr rfl)
      have hmore := decMany_more k _ us q hd
      rw [List.drop_drop] at hmore
      cases hdi : decIn (s.data.toList.drop (p2 + q)) with
      | error e =>
        rw [hdi] at hv hmore
        have hr : res = .error e := by
          rw [HRES.out, decMany_err (k + 1) n _ e hmore (by omega)]
        have he := decIn_err hdi
        have HR := Lib.hid hr
        have HO := Lib.hid hO
        clear hr hmore hdi hd hit hown hR hO
        go_wp2_with fail
        refine hv.mono ?_
        rintro e' W2 ⟨hk2, rfl, hR2⟩
        have hK := HO.out.kept.trans hk2
        have HR2 := Lib.hid hR2
        clear hk2 hR2 hv
        rcases he with rfl | rfl
        all_goals
          go_wp2_with fail
          go_ret2
          refine ⟨?_, ?_⟩
          · exact hK.below ((Below.refl _ _).alloc (Nat.le_refl _) _)
          · rw [HR.out]
            exact ⟨rfl, HR2.out.choose, HR2.out.choose_spec.below ((Below.refl _ _).alloc (Nat.le_refl _) _)⟩
      | ok x =>
        obtain ⟨u, r⟩ := x
        rw [hdi] at hv hmore
        have hu := decIn_ok hdi
        have HU := Lib.hid hu
        have HM := Lib.hid hmore
        have HO := Lib.hid hO
        have HOW := Lib.hid hown
        have HIT := Lib.hid hit
        have HY := Lib.hid hy
        have HD := Lib.hid (decMany_len k _ us q hd).1
        clear hu hmore hdi hd hit hown hR hO hy
        go_wp2_with fail
        refine hv.mono ?_
        rintro e' W2 ⟨hk2, hR2, y, rfl, hy2⟩
        have hIt := Itm.of hy2 HU.out
        have hO2 := HO.out.go hk2
        have hown2 := own_kept HOW.out HO.out.hA hk2
        have HI := Lib.hid hIt
        have HO2 := Lib.hid hO2
        have HR2 := Lib.hid hR2
        have z2 := hO2.lt
        obtain ⟨yk, yn, yss, yp, ym, yc⟩ := y
        clear hv hy2 hIt hO2 hR2 r0 r1 hk2
        go_wp2_with (at_builtin; refine wpList_append_lies _ rfl _ _ _ rfl (W.heap.size + 1) 30 i0 _ 4 56 Tryz.underlying28 hi hz0 hz1 hz2 rfl (by omega) _ k _ rfl ((hown2.alloc _).alloc _) ⟨W2.heap.size + 1, 0, none⟩ 1 1 [.int .i64 yk, .int .i64 yn, .string yss, .slice yp ym yc] rfl rfl (World.news_of_block (cs := #[.int .i64 yk, .int .i64 yn, .string yss, .slice yp ym yc]) (t := 30) (fr := (0, 0)) (by have h := World.alloc_heap_new (W2.alloc (.cells #[.int .i64 yk, .int .i64 yn, .string yss, .slice yp ym yc] 30)) (.cells #[.int .i64 yk, .int .i64 yn, .string yss, .slice yp ym yc] 30); rw [World.size_alloc] at h; exact h)) (by simp [Value.oneCell']) (by omega) (by simp [maxLen]; omega) (by omega) (by simp; omega) (W2.heap.size + 2) (by simp) ?_; intro gg cap w2 hown1 hgrow hat hlt2)
        have hB2 : Below W2.heap.size W2 ((W2.alloc (.cells #[.int .i64 yk, .int .i64 yn, .string yss, .slice yp ym yc] 30)).alloc (.cells #[.int .i64 yk, .int .i64 yn, .string yss, .slice yp ym yc] 30)) := below_two _ _
        refine ⟨⟨k + 1, by omega, by go_num, us ++ [u], q + r, ys ++ [⟨yk, yn, yss, yp, ym, yc⟩], HM.out, by simp [HY.out], ?_, ?_, ?_, ?_⟩, by simp [intOf]; omega⟩
        · rw [itsCells_append]
          exact hown1
        · intro i h h'
          by_cases hi : i < us.length
          · rw [List.getElem_append_left hi, List.getElem_append_left (by rw [HY.out, ← HD.out]; exact hi)]
            exact HIT.out i _ hi
          · have e : i = us.length := by simp at h'; omega
            have e' : i = ys.length := by rw [HY.out, ← HD.out]; exact e
            rw [List.getElem_append_right (by omega), List.getElem_append_right (by omega)]
            simpa using HI.out
        · rw [← Nat.add_assoc]
          refine (HR2.out.below hB2).grown hgrow (fun g hg => ?_)
          have h1 := (hown2.lt g hg).1
          have h3 := H.out.lts
          have h4 := H.out.lt
          have h5 := H.out.b0.size
          exact ⟨by omega, by omega, by omega⟩
        · exact (HO2.out.below hB2).grown hgrow (fun g hg => by have := (hown2.lt g hg).1; omega)
    · obtain rfl : k = n := by omega
      have hr : res = .ok (us, (Wire.num (k : Int)).length + q) := by rw [HRES.out, hd]
      have HR := Lib.hid hr
      have HD := Lib.hid (decMany_len k _ us q hd).1
      have HRD := Lib.hid hR
      have HO := Lib.hid hO
      have HIT := Lib.hid hit
      have HY := Lib.hid hy
      have hL := Lies.own hown
      rw [← hy] at hL
      have hlo : ∀ a, a ∈ (none : Option Addr) → True := fun _ _ => trivial
      have hbk : ∀ g, Value.ownBlock _ = some g → _ := fun g hg => (hown.lt g hg).1
      have HBK := Lib.hid hbk
      clear hlo hbk
      have HL := Lib.hid hL
      clear hr hd hR hO hit hy hown hL r0 r1
      go_wp2_with fail
      go_ret2
      refine ⟨HO.out.kept, ?_⟩
      rw [HR.out]
      refine ⟨by rw [← Nat.add_assoc, HP.out]; exact HRD.out, _, ys, rfl, by rw [HY.out, HD.out], HL.out, HIT.out, fun a m c hv => by have := HBK.out a.block (congrArg Value.ownBlock hv); omega⟩

set_option maxHeartbeats 4000000 in
set_option maxRecDepth 100000 in
theorem list_none (w0 : World) (ea : Addr) (s : ByteArray) (Sb Ab p : Nat) (W : World) (h : Rd w0 ea s Sb Ab p W) (hn : numL (s.data.toList.drop p) = none) :
    Calls Tryz.prog 78 #[rdr Sb Ab] W (listPost (.error 10) w0 ea s Sb Ab p W) := by
  have hlt := h.lt
  have h2 := One.new (W0 := W) (Sb := Sb) (Ab := Ab) hlt
  have hc := decNum w0 ea s Sb Ab p _ (h.below ((Below.refl _ _).alloc (Nat.le_refl _) (.cells #[numFn Sb Ab, textFn Sb Ab] 77)))
  unfold decNumPost at hc
  rw [hn] at hc
  simp only at hc
  have H2 := Lib.hid h2
  clear h h2 hn
  go_enter Tryz.func78, Tryz.ntmps78
  go_wp2_with fail
  refine hc.mono ?_
  rintro e W1 ⟨hk1, rfl, hR1⟩
  have HO := Lib.hid (H2.out.go hk1)
  have HR := Lib.hid hR1
  clear hc hk1 hR1
  go_wp2_with fail
  go_ret2
  exact ⟨HO.out.kept, rfl, _, HR.out⟩

set_option maxHeartbeats 4000000 in
set_option maxRecDepth 100000 in
theorem list_far (w0 : World) (ea : Addr) (s : ByteArray) (Sb Ab p : Nat) (W : World) (h : Rd w0 ea s Sb Ab p W) (n : Int) (hn : numL (s.data.toList.drop p) = some n) (hf : n < 0 ∨ 12 < n) :
    Calls Tryz.prog 78 #[rdr Sb Ab] W (listPost (.error 30) w0 ea s Sb Ab p W) := by
  have hlt := h.lt
  have h2 := One.new (W0 := W) (Sb := Sb) (Ab := Ab) hlt
  have hc := decNum w0 ea s Sb Ab p _ (h.below ((Below.refl _ _).alloc (Nat.le_refl _) (.cells #[numFn Sb Ab, textFn Sb Ab] 77)))
  unfold decNumPost at hc
  rw [hn] at hc
  simp only at hc
  have H2 := Lib.hid h2
  clear h h2 hn
  by_cases h0 : n < 0
  · clear hf
    go_enter Tryz.func78, Tryz.ntmps78
    go_wp2_with fail
    refine hc.mono ?_
    rintro e W1 ⟨hk1, rfl, hR1⟩
    have HO := Lib.hid (H2.out.go hk1)
    have HR := Lib.hid hR1
    clear hc hk1 hR1
    go_wp2_with fail
    go_ret2
    exact ⟨HO.out.kept, rfl, _, HR.out⟩
  · have h1 : 12 < n := hf.resolve_left h0
    clear hf
    go_enter Tryz.func78, Tryz.ntmps78
    go_wp2_with fail
    refine hc.mono ?_
    rintro e W1 ⟨hk1, rfl, hR1⟩
    have HO := Lib.hid (H2.out.go hk1)
    have HR := Lib.hid hR1
    clear hc hk1 hR1
    go_wp2_with fail
    go_ret2
    exact ⟨HO.out.kept, rfl, _, HR.out⟩

theorem list_any (w0 : World) (ea : Addr) (s : ByteArray) (Sb Ab p : Nat) (W : World) (h : Rd w0 ea s Sb Ab p W) :
    Calls Tryz.prog 78 #[rdr Sb Ab] W (listPost (decList (s.data.toList.drop p)) w0 ea s Sb Ab p W) := by
  cases hn : numL (s.data.toList.drop p) with
  | none =>
    have : decList (s.data.toList.drop p) = .error 10 := by unfold decList; rw [hn]
    rw [this]
    exact list_none w0 ea s Sb Ab p W h hn
  | some n =>
    by_cases hf : n < 0 ∨ 12 < n
    · have : decList (s.data.toList.drop p) = .error 30 := by unfold decList; rw [hn]; simp only; rw [if_pos hf]
      rw [this]
      exact list_far w0 ea s Sb Ab p W h n hn hf
    · obtain ⟨m, rfl⟩ := Int.eq_ofNat_of_zero_le (show 0 ≤ n by omega)
      exact list_good w0 ea s Sb Ab p W h m hn (by omega)
end Go.Proofs.YtmijlcilnaeppaaGreatDoor

/- (val.reader).value of lists; val.Decode. -/
set_option linter.unusedSimpArgs false
set_option linter.unusedVariables false
namespace Go.Proofs.YtmijlcilnaeppaaGreatDoor
open Go Go.RowKit Go.Shelf Go.Sort

theorem decV_list {l : List UInt8} (h : numL l = some 5) : decV l = match decList (l.drop (Wire.num 5).length) with
    | .error e => .error e
    | .ok (us, r) => .ok (.mk 5 0 ⟨#[]⟩ us, (Wire.num 5).length + r) := by
  unfold decV decList
  rw [h]
  simp only
  rw [if_pos trivial]
  cases numL (l.drop (Wire.num 5).length) with
  | none => rfl
  | some n =>
    simp only
    by_cases hf : n < 0 ∨ 12 < n
    · rw [if_pos hf, if_pos hf]
    · rw [if_neg hf, if_neg hf, List.drop_drop]
      cases decMany n.toNat (l.drop ((Wire.num 5).length + (Wire.num n).length)) with
      | error e => rfl
      | ok x => simp [Nat.add_assoc]
theorem decList_err {l : List UInt8} {e : Int} (h : decList l = .error e) : e = 10 ∨ e = 30 := by
  have hm : ∀ (n : Nat) (l : List UInt8) (e : Int), decMany n l = .error e → e = 10 ∨ e = 30 := by
    intro n
    induction n with
    | zero => intro l e h; cases h
    | succ n ih =>
      intro l e h
      rw [decMany_succ] at h
      cases h1 : decIn l with
      | error e' => rw [h1] at h; cases h; exact decIn_err h1
      | ok x =>
        rw [h1] at h
        simp only at h
        cases h2 : decMany n (l.drop x.2) with
        | error e' => rw [h2] at h; cases h; exact ih _ _ h2
        | ok y => rw [h2] at h; cases h
  unfold decList at h
  split at h
  · cases h; exact .inl rfl
  · split at h
    · cases h; exact .inr rfl
    · split at h
      · cases h; rename_i h2; exact hm _ _ _ h2
      · cases h
theorem decList_ok {l : List UInt8} {us : List V} {n : Nat} (h : decList l = .ok (us, n)) : us.length ≤ 12 ∧ n ≤ l.length ∧ ∀ u ∈ us, u.flatOk = true := by
  unfold decList at h
  split at h
  · cases h
  · rename_i k hk
    split at h
    · cases h
    · split at h
      · cases h
      · rename_i us' r hr
        cases h
        obtain ⟨a, b, c⟩ := decMany_len _ _ _ _ hr
        have := (numL_some hk).2.length_le
        rw [List.length_drop] at b
        exact ⟨by omega, by omega, c⟩
theorem flatOk_not5 {u : V} (h : u.flatOk = true) : u.okIn = true := by
  have := (flatOk_parts h).1
  unfold V.okIn
  rw [h, Bool.and_true]
  simp; omega
theorem ok_of_items {us : List V} (hl : us.length ≤ 12) (h : ∀ u ∈ us, u.flatOk = true) : (V.mk 5 0 ⟨#[]⟩ us).ok = true := by
  unfold V.ok
  show (if (5 : Int) = 5 then _ else _) = true
  rw [if_pos rfl, Bool.and_eq_true, Bool.and_eq_true]
  exact ⟨decide_eq_true ⟨rfl, rfl⟩, decide_eq_true hl, List.all_eq_true.2 (fun u hu => flatOk_not5 (h u hu))⟩
/-- a list lies, when its items do -/
theorem vat_list {W : World} {p : Option Addr} {m c : Nat} {us : List V} {ys : List It} (hl : us.length ≤ 12) (hy : ys.length = us.length) (hL : Lies W (.slice p m c) ys.length 4 (itsCells ys)) (hi : ∀ (i : Nat) (h : i < ys.length) (h' : i < us.length), Itm us[i] ys[i]) : VAt 1 W (.mk 5 0 ⟨#[]⟩ us) ⟨5, 0, ⟨#[]⟩, p, m, c⟩ := by
  refine ⟨⟨by show (_ : Int) ≤ 5 ∧ (5 : Int) ≤ _; decide, by show (_ : Int) ≤ 0 ∧ (0 : Int) ≤ _; decide, by show (⟨#[]⟩ : ByteArray).size ≤ _; decide, by show us.length ≤ _; omega⟩, rfl, rfl, rfl, ys, hy, hL, fun i h h' => (hi i h h').at 0 W⟩

theorem Lies.past {W : World} {v : Value} {n size : Nat} {xs : List Value} (h : Lies W v n size xs) (q : Addr) (hne : ∀ a m c, v = .slice (some a) m c → a.block ≠ q.block) (u : Value) : Lies (W.setCell q u) v n size xs := by
  obtain ⟨h1, h2 | ⟨b, off, c, hv, hlt, hc⟩⟩ := h
  · exact ⟨h1, .inl h2⟩
  · refine ⟨h1, .inr ⟨b, off, c, hv, by simpa using hlt, fun j u' hu => ?_⟩⟩
    rw [World.cell?_of_block (Below.heap_setCell W q u b (hne _ _ _ hv))]
    exact hc j u' hu

/-- what value answers, and where the row of a list lies -/
def valPost2 (r : Except Int (V × Nat)) (w0 : World) (ea : Addr) (s : ByteArray) (Sb Ab p : Nat) (W : World) (e : Ending) (W' : World) : Prop :=
  valPost r w0 ea s Sb Ab p W e W' ∧ match r with
    | .error _ => True
    | .ok (u, _) => u.flatOk = true ∨ ∀ x : It, e = .returned (.tuple #[x.v, .int .i64 0]) → ∀ a, x.p = some a → W.heap.size ≤ a.block

set_option maxHeartbeats 4000000 in
set_option maxRecDepth 100000 in
theorem value_list (w0 : World) (ea : Addr) (s : ByteArray) (Sb Ab p : Nat) (W : World) (h : Rd w0 ea s Sb Ab p W) (hn : numL (s.data.toList.drop p) = some 5) :
    Calls Tryz.prog 56 #[rdr Sb Ab, .bool true] W (valPost2 (decV (s.data.toList.drop p)) w0 ea s Sb Ab p W) := by
  have hdv := decV_list hn
  rw [List.drop_drop] at hdv
  generalize hres : decV (s.data.toList.drop p) = res at hdv ⊢
  have hlt := h.lt
  have h2 := Two.new (W0 := W) (Sb := Sb) (Ab := Ab) hlt
  have hc := decNum w0 ea s Sb Ab p _ (h.below (below_two (.cells #[numFn Sb Ab, textFn Sb Ab] 77) (.cells #[.int .i64 0, .int .i64 0, .string ⟨#[]⟩, .slice none 0 0] 30)))
  unfold decNumPost at hc
  rw [hn] at hc
  have H := Lib.hid h
  have H2 := Lib.hid h2
  clear h h2 hn hres
  have HDV := Lib.hid hdv
  clear hdv
  go_enter Tryz.func56, Tryz.ntmps56
  go_wp2_with fail
  refine hc.mono ?_
  rintro e W1 ⟨hk1, rfl, hR1⟩
  have hT := H2.out.go hk1
  have z1 : W.heap.size + 2 ≤ W1.heap.size := by have := hT.out.lt; omega
  have hV0 : VBox (W1.alloc (.cells #[.int .i64 5, .int .i64 0, .string ⟨#[]⟩, .slice none 0 0] 30)) W1.heap.size 5 0 ⟨#[]⟩ (.slice none 0 0) := VBox.new W1 _ _ _ _
  have hB0 : Below W1.heap.size W1 (W1.alloc (.cells #[.int .i64 5, .int .i64 0, .string ⟨#[]⟩, .slice none 0 0] 30)) := (Below.refl _ _).alloc (Nat.le_refl _) _
  have hT0 := hT.below hB0
  have hR0 := hR1.below hB0
  have hc2 := list_any w0 ea s Sb Ab (p + (Wire.num 5).length) _ hR0
  obtain ⟨c0, c1⟩ := hT0.cells
  have HT0 := Lib.hid hT0
  have HV0 := Lib.hid hV0
  clear hT hk1 hR1 hc hT0 hR0 hB0 hV0
  cases hdl : decList (s.data.toList.drop (p + (Wire.num 5).length)) with
  | error e2 =>
    rw [hdl] at hc2
    have hr : res = .error e2 := by rw [HDV.out, hdl]
    have he := decList_err hdl
    have HR := Lib.hid hr
    clear hr hdl
    go_wp2_with fail
    refine hc2.mono ?_
    rintro e W2 ⟨hk2, rfl, q, hR2⟩
    have hT2 := HT0.out.go hk2
    have hV2 := HV0.out.kept hk2 (by have := H2.out.hA; omega)
    have z2 := hV2.lt
    clear c0 c1 hk2 hc2
    obtain ⟨⟨v0, v1, v2, v3⟩, g0, g1, g2, g3⟩ := hV2.facts
    have hT3 := hT2.past ⟨W1.heap.size, 3, none⟩ z1 (.slice none 0 0)
    have hR3 := hR2.past ⟨W1.heap.size, 3, none⟩ (by have := H.out.lts; show Sb ≠ W1.heap.size; omega) (by have := H.out.lt; show Ab ≠ W1.heap.size; omega) (by have := H.out.b0.size; show _ ≤ W1.heap.size; omega) (.slice none 0 0)
    obtain ⟨⟨c0, c1, c2, c3⟩, f0, f1, f2, f3⟩ := hT3.out.facts
    have HT := Lib.hid hT3
    have HR1 := Lib.hid hR3
    clear hT2 hR2 hV2 hT3 hR3
    clear HDV
    rcases he with rfl | rfl
    all_goals
      go_wp2_with fail
      obtain ⟨hV, hK⟩ := HT.out.fin 0 0 ⟨#[]⟩ (.slice none 0 0)
      have hR := HR1.out.fin H.out 0 0 ⟨#[]⟩ (.slice none 0 0)
      unfold putBox at hV hK hR
      generalize ((((W2.setCell ⟨W1.heap.size, 3, none⟩ (.slice none 0 0)).setCell ⟨W.heap.size + 1, 0, none⟩ (.int .i64 0)).setCell ⟨W.heap.size + 1, 1, none⟩ (.int .i64 0)).setCell ⟨W.heap.size + 1, 2, none⟩ (.string ⟨#[]⟩)).setCell ⟨W.heap.size + 1, 3, none⟩ (.slice none 0 0) = W9 at hV hK hR ⊢
      obtain ⟨⟨e0, e1, e2, e3⟩, _⟩ := hV.facts
      first
        | exact bodyPost_ret (v := .tuple #[valV 0 0 ⟨#[]⟩ (.slice none 0 0), .int .i64 10]) (by simp [results, Tryz.results56, go_sem, e0, e1, e2, e3]) rfl ⟨⟨hK, by rw [HR.out]; exact ⟨rfl, _, hR⟩⟩, by rw [HR.out]; trivial⟩
        | exact bodyPost_ret (v := .tuple #[valV 0 0 ⟨#[]⟩ (.slice none 0 0), .int .i64 30]) (by simp [results, Tryz.results56, go_sem, e0, e1, e2, e3]) rfl ⟨⟨hK, by rw [HR.out]; exact ⟨rfl, _, hR⟩⟩, by rw [HR.out]; trivial⟩
  | ok x =>
    obtain ⟨us, r⟩ := x
    rw [hdl] at hc2
    have hr : res = .ok (.mk 5 0 ⟨#[]⟩ us, (Wire.num 5).length + r) := by rw [HDV.out, hdl]
    obtain ⟨hl12, hrl, hus⟩ := decList_ok hdl
    have HR := Lib.hid hr
    have HUS := Lib.hid hus
    clear hr hdl hrl hus
    go_wp2_with fail
    refine hc2.mono ?_
    rintro e W2 ⟨hk2, hR2, v, ys, rfl, hy, hL, hit, hbk⟩
    have hT2 := HT0.out.go hk2
    have hV2 := HV0.out.kept hk2 (by have := H2.out.hA; omega)
    have z2 := hV2.lt
    clear c0 c1 hk2 hc2
    obtain ⟨⟨v0, v1, v2, v3⟩, g0, g1, g2, g3⟩ := hV2.facts
    have hsl : ∃ p' m c, v = .slice p' m c := by
      rcases hL.2 with ⟨_, p', c, h⟩ | ⟨b, off, c, h, _⟩
      · exact ⟨p', 0, c, h⟩
      · exact ⟨_, _, c, h⟩
    obtain ⟨p', m, c, rfl⟩ := hsl
    have hT3 := hT2.past ⟨W1.heap.size, 3, none⟩ z1 (.slice p' m c)
    have hR3 := hR2.past ⟨W1.heap.size, 3, none⟩ (by have := H.out.lts; show Sb ≠ W1.heap.size; omega) (by have := H.out.lt; show Ab ≠ W1.heap.size; omega) (by have := H.out.b0.size; show _ ≤ W1.heap.size; omega) (.slice p' m c)
    have hV3 := hV2.set3 (.slice p' m c)
    have hbk2 : ∀ a, p' = some a → W1.heap.size + 1 ≤ a.block := fun a ha => by
      have := hbk a m c (by rw [ha])
      simpa using this
    have hL3 := hL.past ⟨W1.heap.size, 3, none⟩ (fun a m' c' ha => by injection ha with h1 _ _; have := hbk2 a h1; show a.block ≠ W1.heap.size; omega) (.slice p' m c)
    have hat := vat_list hl12 hy hL3 hit
    have hr := right_V 1 _ _ _ hat hR3.tabs
    rw [ok_of_items hl12 HUS.out] at hr
    have HT := Lib.hid hT3
    have HV := Lib.hid hV3
    have HR1 := Lib.hid hR3
    have HL := Lib.hid hL3
    have HIT := Lib.hid hit
    have HBK := Lib.hid hbk2
    have HY := Lib.hid hy
    clear hT2 hR2 hV2 hT3 hR3 hV3 hL hL3 hat hit hbk hbk2 hy
    go_wp2_with fail
    refine hr.mono ?_
    rintro e W3 ⟨rfl, hB3⟩
    have hT4 := HT.out.below hB3
    have hR4 := HR1.out.below hB3
    have hV4 := HV.out.below hB3
    have hL4 := HL.out.below hB3
    clear v0 v1 v2 v3 g0 g1 g2 g3 HT HR1 HV HL
    obtain ⟨⟨c0, c1, c2, c3⟩, f0, f1, f2, f3⟩ := hT4.out.facts
    obtain ⟨⟨v0, v1, v2, v3⟩, g0, g1, g2, g3⟩ := hV4.facts
    rw [Nat.add_assoc] at hR4
    have HT := Lib.hid hT4
    have HR1 := Lib.hid hR4
    have HL := Lib.hid hL4
    clear hT4 hR4 hV4 hB3 hr hL4
    go_wp2_with fail
    obtain ⟨hV, hK⟩ := HT.out.fin 5 0 ⟨#[]⟩ (.slice p' m c)
    have hR := HR1.out.fin H.out 5 0 ⟨#[]⟩ (.slice p' m c)
    have hne : ∀ a m' c', (Value.slice p' m c) = .slice (some a) m' c' → a.block ≠ W.heap.size + 1 := fun a m' c' ha => by injection ha with h1 _ _; have := HBK.out a h1; omega
    have hL9 := (((HL.out.past ⟨W.heap.size + 1, 0, none⟩ hne (.int .i64 5)).past ⟨W.heap.size + 1, 1, none⟩ hne (.int .i64 0)).past ⟨W.heap.size + 1, 2, none⟩ hne (.string ⟨#[]⟩)).past ⟨W.heap.size + 1, 3, none⟩ hne (.slice p' m c)
    unfold putBox at hV hK hR
    generalize (((W3.setCell ⟨W.heap.size + 1, 0, none⟩ (.int .i64 5)).setCell ⟨W.heap.size + 1, 1, none⟩ (.int .i64 0)).setCell ⟨W.heap.size + 1, 2, none⟩ (.string ⟨#[]⟩)).setCell ⟨W.heap.size + 1, 3, none⟩ (.slice p' m c) = W9 at hV hK hR hL9 ⊢
    obtain ⟨⟨e0, e1, e2, e3⟩, _⟩ := hV.facts
    exact bodyPost_ret (v := .tuple #[valV 5 0 ⟨#[]⟩ (.slice p' m c), .int .i64 0]) (by simp [results, Tryz.results56, go_sem, e0, e1, e2, e3]) rfl ⟨⟨hK, by rw [HR.out]; exact ⟨hR, ⟨5, 0, ⟨#[]⟩, p', m, c⟩, rfl, vat_list hl12 HY.out hL9 HIT.out⟩⟩, by rw [HR.out]; exact .inr (fun x hx a ha => by obtain ⟨xk, xn, xs, xp, xm, xc⟩ := x; simp only [It.v, valV, Ending.returned.injEq, Value.tuple.injEq] at hx; simp at hx; simp only at ha; have := HBK.out a (by rw [hx.2.2.2.1, ha]); omega)⟩
end Go.Proofs.YtmijlcilnaeppaaGreatDoor

/- val.Decode. -/
set_option linter.unusedSimpArgs false
set_option linter.unusedVariables false
namespace Go.Proofs.YtmijlcilnaeppaaGreatDoor
open Go Go.RowKit Go.Shelf Go.Sort

theorem value_any (w0 : World) (ea : Addr) (s : ByteArray) (Sb Ab p : Nat) (W : World) (h : Rd w0 ea s Sb Ab p W) :
    Calls Tryz.prog 56 #[rdr Sb Ab, .bool true] W (valPost2 (decV (s.data.toList.drop p)) w0 ea s Sb Ab p W) := by
  by_cases h5 : numL (s.data.toList.drop p) = some 5
  · exact value_list w0 ea s Sb Ab p W h h5
  · have : decV (s.data.toList.drop p) = decIn (s.data.toList.drop p) := by
      unfold decV
      cases hn : numL (s.data.toList.drop p) with
      | none => simp only; unfold decIn; rw [hn]
      | some k =>
        simp only
        rw [if_neg (fun e => h5 (by rw [hn, e]))]
    rw [this]
    refine (value_flat true w0 ea s Sb Ab p W h (fun k hk => .inl (fun e => h5 (by rw [hk, e])))).mono fun e W' hp => ⟨hp, ?_⟩
    cases hd : decIn (s.data.toList.drop p) with
    | error e => trivial
    | ok x => exact .inl (decIn_ok hd)

/-- what Decode answers -/
def decodePost (s : ByteArray) (p : Int) (W : World) (e : Ending) (W' : World) : Prop :=
  Below W.heap.size W W' ∧ if p < 0 ∨ (s.size : Int) < p then e = .returned (.tuple #[valV 0 0 ⟨#[]⟩ (.slice none 0 0), .int .i64 0, .int .i64 2]) else
    match decV (s.data.toList.drop p.toNat) with
    | .error n => e = .returned (.tuple #[valV 0 0 ⟨#[]⟩ (.slice none 0 0), .int .i64 0, .int .i64 n])
    | .ok (u, n) => ∃ x : It, e = .returned (.tuple #[x.v, .int .i64 (p + n), .int .i64 0]) ∧ VAt 1 W' u x

set_option maxHeartbeats 4000000 in
set_option maxRecDepth 100000 in
theorem decode_out (s : ByteArray) (p : Int) (hp : p < 0 ∨ (s.size : Int) < p) (W : World) :
    Calls Tryz.prog 28 #[.string s, .int .i64 p] W (decodePost s p W) := by
  have hfin : ∀ e W', (Below W.heap.size W W' ∧ e = .returned (.tuple #[valV 0 0 ⟨#[]⟩ (.slice none 0 0), .int .i64 0, .int .i64 2])) → decodePost s p W e W' := fun e W' h => ⟨h.1, by rw [if_pos hp]; exact h.2⟩
  refine Calls.mono (R := fun e W' => Below W.heap.size W W' ∧ e = .returned (.tuple #[valV 0 0 ⟨#[]⟩ (.slice none 0 0), .int .i64 0, .int .i64 2])) ?_ hfin
  clear hfin
  by_cases h0 : p < 0
  · clear hp
    go_enter Tryz.func28, Tryz.ntmps28
    go_wp2_with fail
    exact bodyPost_ret (v := .tuple #[valV 0 0 ⟨#[]⟩ (.slice none 0 0), .int .i64 0, .int .i64 2]) (by simp [results, Tryz.results28, go_sem]) rfl ⟨((below_two _ _).alloc (by simp; omega) _), rfl⟩
  · have h1 : (s.size : Int) < p := hp.resolve_left h0
    clear hp
    go_enter Tryz.func28, Tryz.ntmps28
    go_wp2_with fail
    exact bodyPost_ret (v := .tuple #[valV 0 0 ⟨#[]⟩ (.slice none 0 0), .int .i64 0, .int .i64 2]) (by simp [results, Tryz.results28, go_sem]) rfl ⟨((below_two _ _).alloc (by simp; omega) _), rfl⟩

theorem decV_err {l : List UInt8} {e : Int} (h : decV l = .error e) : e = 10 ∨ e = 30 := by
  by_cases h5 : numL l = some 5
  · rw [decV_list h5] at h
    split at h
    · cases h; rename_i h2; exact decList_err h2
    · cases h
  · unfold decV at h
    split at h
    · cases h; exact .inl rfl
    · rename_i k hk
      rw [if_neg (fun e => h5 (by rw [hk, e]))] at h
      exact decIn_err h

theorem rdInfo : (Tryz.prog.info? 77).map (·.size) = some 2 := by kernel_rfl

set_option maxHeartbeats 4000000 in
set_option maxRecDepth 100000 in
theorem decode_in (s : ByteArray) (hs : s.size ≤ 9223372036854775807) (p : Nat) (hp : p ≤ s.size) (ea : Addr) (W : World) (hT : Tabs W) (hE : errLies ea W) :
    Calls Tryz.prog 28 #[.string s, .int .i64 (p : Int)] W (decodePost s p W) := by
  have hfin : ∀ e W', (Below W.heap.size W W' ∧ match decV (s.data.toList.drop p) with
    | .error n => e = .returned (.tuple #[valV 0 0 ⟨#[]⟩ (.slice none 0 0), .int .i64 0, .int .i64 n])
    | .ok (u, n) => ∃ x : It, e = .returned (.tuple #[x.v, .int .i64 ((p : Int) + n), .int .i64 0]) ∧ VAt 1 W' u x) → decodePost s p W e W' := fun e W' h => ⟨h.1, by rw [if_neg (by omega), Int.toNat_natCast]; exact h.2⟩
  refine Calls.mono ?_ hfin
  clear hfin
  obtain ⟨W1, hW1⟩ : ∃ W1, W1 = (((W.alloc (.cells #[.string s] 9)).alloc (.cells #[.int .i64 (p : Int)] 3)).alloc (.cells #[.int .i64 0, .int .i64 0, .string ⟨#[]⟩, .slice none 0 0] 30)) := ⟨_, rfl⟩
  obtain ⟨W2, hW2⟩ : ∃ W2, W2 = W1.alloc (.cells #[numFn W.heap.size (W.heap.size + 1), textFn W.heap.size (W.heap.size + 1)] 77) := ⟨_, rfl⟩
  have hB2 : Below W.heap.size W W2 := by
    rw [hW2, hW1]
    exact (((below_two _ _).alloc (by simp; omega) _).alloc (by simp; omega) _)
  have hsz : W2.heap.size = W.heap.size + 4 := by simp [hW1, hW2]
  have b0 : W2.heap[W.heap.size]? = some (.cells #[.string s] 9 (0, 0)) := by
    rw [hW2, hW1]
    rw [Lib.alloc_old _ _ _ (by simp; omega), Lib.alloc_old _ _ _ (by simp; omega)]
    exact heap_alloc2_old W _ _
  have b1 : W2.heap[W.heap.size + 1]? = some (.cells #[.int .i64 (p : Int)] 3 (0, 0)) := by
    rw [hW2, hW1]
    rw [Lib.alloc_old _ _ _ (by simp), Lib.alloc_old _ _ _ (by simp)]
    have := World.alloc_heap_new (W.alloc (.cells #[.string s] 9)) (.cells #[.int .i64 (p : Int)] 3)
    rwa [show (W.alloc (.cells #[.string s] 9)).heap.size = W.heap.size + 1 from by simp] at this
  have b2 : VBox W2 (W.heap.size + 1 + 1) 0 0 ⟨#[]⟩ (.slice none 0 0) := by
    have := VBox.new ((W.alloc (.cells #[.string s] 9)).alloc (.cells #[.int .i64 (p : Int)] 3)) 0 0 ⟨#[]⟩ (.slice none 0 0)
    rw [show ((W.alloc (.cells #[.string s] 9)).alloc (.cells #[.int .i64 (p : Int)] 3)).heap.size = W.heap.size + 2 from by simp] at this
    rw [hW2, hW1]
    exact (this.alloc _)
  have b3 : W2.heap[W.heap.size + 3]? = some (.cells #[numFn W.heap.size (W.heap.size + 1), textFn W.heap.size (W.heap.size + 1)] 77 (0, 0)) := by
    have := World.alloc_heap_new W1 (.cells #[numFn W.heap.size (W.heap.size + 1), textFn W.heap.size (W.heap.size + 1)] 77)
    rw [← hW2] at this
    rwa [show W1.heap.size = W.heap.size + 3 from by simp [hW1]] at this
  have r0 : W2.cell? ⟨W.heap.size + 3, 0, none⟩ = some (numFn W.heap.size (W.heap.size + 1)) := by rw [Lib.cell_of_heap b3]; rfl
  have r1 : W2.cell? ⟨W.heap.size + 3, 1, none⟩ = some (textFn W.heap.size (W.heap.size + 1)) := by rw [Lib.cell_of_heap b3]; rfl
  clear b3
  have hR : Rd W ea s W.heap.size (W.heap.size + 1) p W2 := ⟨hs, hT, hE, hB2, Nat.le_refl _, by omega, by omega, b0, b1, hp⟩
  have hv := value_any W ea s W.heap.size (W.heap.size + 1) p W2 hR
  have hz1 : W1.heap.size = W.heap.size + 3 := by simp [hW1]
  have hgr : ∀ o, ((((W.alloc (.cells #[.string s] 9)).alloc (.cells #[.int .i64 (p : Int)] 3)).alloc (.cells #[.int .i64 0, .int .i64 0, .string ⟨#[]⟩, .slice none 0 0] 30)).alloc o).heap[W.heap.size + 3]? = some o := fun o => by
    have := World.alloc_heap_new W1 o
    rwa [hz1, hW1] at this
  have hsr : ∀ (old : Array Value), (((((W.alloc (.cells #[.string s] 9)).alloc (.cells #[.int .i64 (p : Int)] 3)).alloc (.cells #[.int .i64 0, .int .i64 0, .string ⟨#[]⟩, .slice none 0 0] 30)).alloc (.cells old 77)).setRow (W.heap.size + 3) #[numFn W.heap.size (W.heap.size + 1), textFn W.heap.size (W.heap.size + 1)]) = W2 := fun old => by
    have := World.setRow_alloc_new W1 old #[numFn W.heap.size (W.heap.size + 1), textFn W.heap.size (W.heap.size + 1)] 77
    rw [← hW2] at this
    rwa [hz1, hW1] at this
  have HGR := Lib.hid hgr
  have HSR := Lib.hid hsr
  clear hgr hsr hz1 hW1 hW2
  have HB2 := Lib.hid hB2
  have HV2 := Lib.hid b2
  have HS := Lib.hid hsz
  clear hR hT hE hB2 b0 b1 b2 hsz
  cases hd : decV (s.data.toList.drop p) with
  | error n =>
    have hn := decV_err hd
    rw [hd] at hv
    clear hd
    go_enter Tryz.func28, Tryz.ntmps28
    go_wp2_with (refine wpList_store_row rfl 77 _ _ rfl (W.heap.size + 3) #[numFn W.heap.size (W.heap.size + 1), textFn W.heap.size (W.heap.size + 1)] rfl rfl 77 _ (HGR.out _) rdInfo rfl (by simp [Value.oneCell']) ?_; rw [HSR.out])
    refine hv.mono ?_
    rintro e W3 ⟨⟨hk, rfl, q, hR3⟩, _⟩
    have hV3 := HV2.out.kept hk (by omega)
    have hz3 : W.heap.size + 4 ≤ W3.heap.size := by have := hk.size; have := HS.out; omega
    have hB3 : Below W.heap.size W W3 := HB2.out.grown hk (by have := HS.out; omega) (fun k e => by have := Option.some.inj e; omega)
    have hz4 : W.heap.size + 1 + 1 < W3.heap.size := by omega
    have hz5 : W.heap.size + 1 < W3.heap.size := by omega
    obtain ⟨⟨c0, c1, c2, c3⟩, f0, f1, f2, f3⟩ := hV3.facts
    have HB3 := Lib.hid hB3
    have HV3 := Lib.hid hV3
    clear hk hR3 hB3 hV3 hv
    rcases hn with rfl | rfl
    all_goals
      go_wp2_with fail
      have hV := (HV3.out.put 0 0 ⟨#[]⟩ (.slice none 0 0)).alloc (.cells #[.int .i64 0, .int .i64 0, .string ⟨#[]⟩, .slice none 0 0] 30)
      have hB := (below_put HB3.out (b := W.heap.size + 1 + 1) (by omega) 0 0 ⟨#[]⟩ (.slice none 0 0)).alloc (by simp [putBox]; omega) (.cells #[.int .i64 0, .int .i64 0, .string ⟨#[]⟩, .slice none 0 0] 30)
      unfold putBox at hV hB
      generalize ((((W3.setCell ⟨W.heap.size + 1 + 1, 0, none⟩ (.int .i64 0)).setCell ⟨W.heap.size + 1 + 1, 1, none⟩ (.int .i64 0)).setCell ⟨W.heap.size + 1 + 1, 2, none⟩ (.string ⟨#[]⟩)).setCell ⟨W.heap.size + 1 + 1, 3, none⟩ (.slice none 0 0)).alloc (.cells #[.int .i64 0, .int .i64 0, .string ⟨#[]⟩, .slice none 0 0] 30) = W9 at hV hB ⊢
      obtain ⟨⟨e0, e1, e2, e3⟩, _⟩ := hV.facts
      first
        | exact bodyPost_ret (v := .tuple #[valV 0 0 ⟨#[]⟩ (.slice none 0 0), .int .i64 0, .int .i64 10]) (by simp [results, Tryz.results28, go_sem, e0, e1, e2, e3]) rfl ⟨hB, rfl⟩
        | exact bodyPost_ret (v := .tuple #[valV 0 0 ⟨#[]⟩ (.slice none 0 0), .int .i64 0, .int .i64 30]) (by simp [results, Tryz.results28, go_sem, e0, e1, e2, e3]) rfl ⟨hB, rfl⟩
  | ok x =>
    obtain ⟨u, n⟩ := x
    rw [hd] at hv
    clear hd
    go_enter Tryz.func28, Tryz.ntmps28
    go_wp2_with (refine wpList_store_row rfl 77 _ _ rfl (W.heap.size + 3) #[numFn W.heap.size (W.heap.size + 1), textFn W.heap.size (W.heap.size + 1)] rfl rfl 77 _ (HGR.out _) rdInfo rfl (by simp [Value.oneCell']) ?_; rw [HSR.out])
    refine hv.mono ?_
    rintro e W3 ⟨⟨hk, hR3, x, rfl, hx⟩, hbk⟩
    have hbk := hbk.imp id (fun h => h x rfl)
    have hV3 := HV2.out.kept hk (by omega)
    have hz3 : W.heap.size + 4 ≤ W3.heap.size := by have := hk.size; have := HS.out; omega
    have hB3 : Below W.heap.size W W3 := HB2.out.grown hk (by have := HS.out; omega) (fun k e => by have := Option.some.inj e; omega)
    have hz4 : W.heap.size + 1 + 1 < W3.heap.size := by omega
    have hz5 : W.heap.size + 1 < W3.heap.size := by omega
    obtain ⟨⟨c0, c1, c2, c3⟩, f0, f1, f2, f3⟩ := hV3.facts
    have a0 : W3.cell? ⟨W.heap.size + 1, 0, none⟩ = some (.int .i64 ((p + n : Nat) : Int)) := by rw [Lib.cell_of_heap hR3.ab]; rfl
    obtain ⟨k, m, t, pp, pm, pc⟩ := x
    have HB3 := Lib.hid hB3
    have HV3 := Lib.hid hV3
    have HX := Lib.hid hx
    have HBK := Lib.hid hbk
    clear hk hR3 hB3 hV3 hv hx hbk
    go_wp2_with fail
    go_region
    go_wp2_with fail
    have hV := (HV3.out.put k m t (.slice pp pm pc)).alloc (.cells #[.int .i64 k, .int .i64 m, .string t, .slice pp pm pc] 30)
    have hB := (below_put HB3.out (b := W.heap.size + 1 + 1) (by omega) k m t (.slice pp pm pc)).alloc (by simp [putBox]; omega) (.cells #[.int .i64 k, .int .i64 m, .string t, .slice pp pm pc] 30)
    have hX : VAt 1 ((putBox W3 (W.heap.size + 1 + 1) k m t (.slice pp pm pc)).alloc (.cells #[.int .i64 k, .int .i64 m, .string t, .slice pp pm pc] 30)) u ⟨k, m, t, pp, pm, pc⟩ := by
      rcases HBK.out with h | h
      · exact (Itm.of HX.out h).at _ _
      · have hne : ∀ a m' c', (Value.slice pp pm pc) = .slice (some a) m' c' → a.block ≠ W.heap.size + 1 + 1 := fun a m' c' ha => by injection ha with h1 _ _; have := h a h1; have := HS.out; omega
        have hx1 : VAt 1 (putBox W3 (W.heap.size + 1 + 1) k m t (.slice pp pm pc)) u ⟨k, m, t, pp, pm, pc⟩ := by
          obtain ⟨h0, h1, h2, h3, ys, h4, h5, h6⟩ := HX.out
          refine ⟨h0, h1, h2, h3, ys, h4, (((h5.past ⟨W.heap.size + 1 + 1, 0, none⟩ hne (.int .i64 k)).past ⟨W.heap.size + 1 + 1, 1, none⟩ hne (.int .i64 m)).past ⟨W.heap.size + 1 + 1, 2, none⟩ hne (.string t)).past ⟨W.heap.size + 1 + 1, 3, none⟩ hne (.slice pp pm pc), fun i a b => ?_⟩
          have hj := h6 i a b
          obtain ⟨g0, g1, g2, g3, zs, g4, g5, g6⟩ := hj
          refine ⟨g0, g1, g2, g3, zs, g4, ?_, g6⟩
          have hz : zs = [] := by
            cases zs with
            | nil => rfl
            | cons z zs => exact (g6 0 (by simp) (by simp at g4; omega)).elim
          subst hz
          exact ⟨rfl, .inl (by
            rcases g5.2 with ⟨_, h⟩ | ⟨b, off, c, h, _⟩
            · exact ⟨rfl, h⟩
            · injection h with h1 h2 h3
              rw [h2]
              exact ⟨rfl, _, _, rfl⟩)⟩
        exact hx1.below ((Below.refl _ _).alloc (Nat.le_refl _) _)
    have a1 : W3.heap.size = W3.heap.size := rfl
    unfold putBox at hV hB hX
    generalize ((((W3.setCell ⟨W.heap.size + 1 + 1, 0, none⟩ (.int .i64 k)).setCell ⟨W.heap.size + 1 + 1, 1, none⟩ (.int .i64 m)).setCell ⟨W.heap.size + 1 + 1, 2, none⟩ (.string t)).setCell ⟨W.heap.size + 1 + 1, 3, none⟩ (.slice pp pm pc)).alloc (.cells #[.int .i64 k, .int .i64 m, .string t, .slice pp pm pc] 30) = W9 at hV hB hX ⊢
    obtain ⟨⟨e0, e1, e2, e3⟩, _⟩ := hV.facts
    exact bodyPost_ret (v := .tuple #[valV k m t (.slice pp pm pc), .int .i64 ((p : Int) + n), .int .i64 0]) (by simp [results, Tryz.results28, go_sem, e0, e1, e2, e3]) rfl ⟨hB.drew, ⟨k, m, t, pp, pm, pc⟩, rfl, hX.below ((Below.refl _ _).drew)⟩
end Go.Proofs.YtmijlcilnaeppaaGreatDoor

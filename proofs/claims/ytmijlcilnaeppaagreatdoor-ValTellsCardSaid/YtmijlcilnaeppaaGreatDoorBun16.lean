/- Texts put together: Copy, Odd. -/
import Derived.Laws.AppendOwnNone
import Derived.Test.YtmijlcilnaeppaaGreatDoorBun10
import Derived.Test.YtmijlcilnaeppaaGreatDoorBun14
/- append(nil, xs...): a copy; values without items, wherever. -/
set_option linter.unusedSimpArgs false
set_option linter.unusedVariables false
namespace Go.Proofs.YtmijlcilnaeppaaGreatDoor
open Go Go.RowKit Go.Shelf

theorem run_append_zero {P : Program} {w : World} (t ty e : TypeId) (i : TypeInfo) (ht : P.underlying t = some (.slice e)) (hi : P.info? e = some i) (p : Option Addr) (c : Nat) :
    (Builtin.append_ #[t, t] ty #[.slice none 0 0, .slice p 0 c]).run P w = .ok (.slice none 0 0) w := by
  cases p <;> simp [Builtin.append_, run_underlying ht, sizeOf, typeInfo, hi, Builtin.lenOf, Builtin.firstCells, loadCells, loadCellsFrom, Result.andThen]
theorem wpList_append_zero {P : Program} {w : World} {ops : Array Oper} {rest : List Oper} {o : Oper} {a : Act} {Q : Exit → Act → World → Prop} (hgd : o.guard = none) (s x : Operand) (t : TypeId)
    (ho : o.op = .call { callee := .builtin .append, args := #[s, x], argTypes := #[t, t] })
    (e : TypeId) (i : TypeInfo) (ht : P.underlying t = some (.slice e)) (hi : P.info? e = some i)
    (p : Option Addr) (c : Nat) (hs : a.eval s = .slice none 0 0) (hx : a.eval x = .slice p 0 c)
    (h : wpList P ops Q rest (a.put o.dst (.slice none 0 0)) w) : wpList P ops Q (o :: rest) a w := by
  refine wpList_plain hgd fun K hK => ?_
  have hrun := run_append_zero (P := P) (w := w) t o.type e i ht hi p c
  unfold Oper.wp
  simp [execOp, ho, resolve, invoke, builtin, hs, hx, hrun, Result.andThen]
  exact hK _ _ h
/-- append(nil, xs...): a copy in memory of its own -/
theorem wpList_append_copy {P : Program} {w : World} {ops : Array Oper} {rest : List Oper} {o : Oper} {a : Act} {Q : Exit → Act → World → Prop} (hgd : o.guard = none) (s x : Operand) (t : TypeId)
    (ho : o.op = .call { callee := .builtin .append, args := #[s, x], argTypes := #[t, t] })
    (base : Nat) (e : TypeId) (i : TypeInfo) (z : Value) (size bytes : Nat) (ht : P.underlying t = some (.slice e)) (hi : P.info? e = some i) (hz : i.zero = some z)
    (hsize : i.size = size) (hby : i.bytes = bytes) (hzs : z.cells.size = size) (hsz : 0 < size)
    (hs : a.eval s = .slice none 0 0) (p : Option Addr) (m c : Nat) (xs : List Value) (hx : a.eval x = .slice p m c) (hL : Lies w (.slice p m c) m size xs) (h1 : ∀ u ∈ xs, u.oneCell' = true)
    (h63 : m ≤ maxLen) (hbytes : m * bytes ≤ 140737488355328) (hbase : base ≤ w.heap.size)
    (h : ∀ p' c' w', w'.ownsRow base e size (.slice p' m c') m xs → w.grownBy w' none → wpList P ops Q rest (a.put o.dst (.slice p' m c')) w') : wpList P ops Q (o :: rest) a w := by
  rcases Nat.eq_zero_or_pos m with rfl | hm
  · have e0 : xs = [] := List.eq_nil_of_length_eq_zero (by have := hL.1; omega)
    subst e0
    exact wpList_append_zero hgd s x t ho e i ht hi p c hs hx (h none 0 w (World.ownsRow_nil _ _ _ _) ⟨rfl, rfl, rfl, Nat.le_refl _, fun _ _ _ => rfl⟩)
  · obtain ⟨b, off, rfl, hb, hc⟩ : ∃ b off, p = some ⟨b, off, none⟩ ∧ b < w.heap.size ∧ ∀ j u, xs[j]? = some u → w.cell? ⟨b, off + j, none⟩ = some u := by
      rcases hL.2 with ⟨h0, _⟩ | ⟨b, off, c', hv, hb, hc⟩
      · omega
      · injection hv with h1 _ _
        exact ⟨b, off, h1, hb, hc⟩
    refine wpList_append_lies w hgd s x t ho base e i z size bytes ht hi hz hsize hby hzs hsz (Value.slice none 0 0) 0 [] hs (World.ownsRow_nil _ _ _ _) ⟨b, off, none⟩ m c xs hx hL.1 (fun j u hu => ?_) h1 hm (by omega) (by rw [Nat.zero_add]; exact hbytes) hbase w.heap.size rfl ?_
    · have := hc j u hu
      rwa [show (⟨b, off, none⟩ : Addr).add j = ⟨b, off + j, none⟩ from by unfold Addr.add; split <;> simp_all]
    · intro g cap w' hown hg _ _
      rw [Nat.zero_add] at hown ⊢
      exact h _ _ w' hown hg

/-- a value without items, wherever -/
def FlatAt (u : V) (y : It) : Prop := u.fine ∧ y.k = u.k ∧ y.n = u.n ∧ y.s = u.s ∧ u.l = [] ∧ y.m = 0
theorem FlatAt.at {u : V} {y : It} (h : FlatAt u y) (d : Nat) (W : World) : VAt d W u y := by
  obtain ⟨h0, h1, h2, h3, h4, h5⟩ := h
  obtain ⟨k, n, s, p, m, c⟩ := y
  simp only at h1 h2 h3 h5
  subst h5
  have ht : ∀ J, VTop W u ⟨k, n, s, p, 0, c⟩ J := fun J => ⟨h0, h1, h2, h3, [], by rw [h4]; rfl, ⟨rfl, .inl ⟨rfl, p, c, rfl⟩⟩, fun i h => absurd h (by simp)⟩
  cases d with
  | zero => exact ht _
  | succ d => exact ht _
theorem FlatAt.of {W : World} {u : V} {y : It} (h : VAt 0 W u y) : FlatAt u y := by
  have hlen := h.top.len
  obtain ⟨h0, h1, h2, h3, ys, h4, h5, h6⟩ := h
  have hl : u.l = [] := by
    cases hu : u.l with
    | nil => rfl
    | cons a r => exact absurd (h6 0 (by rw [h4, hu]; simp) (by rw [hu]; simp)) (fun h => h)
  exact ⟨h0, h1, h2, h3, hl, by rw [hlen, hl]; rfl⟩
theorem VAt.up : ∀ {d : Nat} {W : World} {v : V} {x : It}, VAt d W v x → VAt (d + 1) W v x
  | 0, W, v, x, h => (FlatAt.of h).at 1 W
  | d + 1, W, v, x, h => by
    obtain ⟨h0, h1, h2, h3, ys, h4, h5, h6⟩ := h
    exact ⟨h0, h1, h2, h3, ys, h4, h5, fun i a b => (h6 i a b).up⟩
theorem VAt.edit {d : Nat} {W : World} {v : V} {x : It} (h : VAt d W v x) (k n : Int) (s : ByteArray) (hk : -9223372036854775808 ≤ k ∧ k ≤ 9223372036854775807) (hn : -9223372036854775808 ≤ n ∧ n ≤ 9223372036854775807) (hs : s.size ≤ 9223372036854775807) :
    VAt d W (.mk k n s v.l) ⟨k, n, s, x.p, x.m, x.c⟩ := by
  have hf := h.top.1
  cases d with
  | zero => obtain ⟨h0, h1, h2, h3, ys, h4, h5, h6⟩ := h; exact ⟨⟨hk, hn, hs, hf.l⟩, rfl, rfl, rfl, ys, h4, h5, h6⟩
  | succ d => obtain ⟨h0, h1, h2, h3, ys, h4, h5, h6⟩ := h; exact ⟨⟨hk, hn, hs, hf.l⟩, rfl, rfl, rfl, ys, h4, h5, h6⟩
end Go.Proofs.YtmijlcilnaeppaaGreatDoor

/- morainelaw03.odd. -/
set_option linter.unusedSimpArgs false
set_option linter.unusedVariables false
namespace Go.Proofs.YtmijlcilnaeppaaGreatDoor
open Go Go.RowKit Go.Shelf

theorem flat_bare {k n : Int} (hk : -9223372036854775808 ≤ k ∧ k ≤ 9223372036854775807) (hn : -9223372036854775808 ≤ n ∧ n ≤ 9223372036854775807) : FlatAt (.mk k n ⟨#[]⟩ []) ⟨k, n, ⟨#[]⟩, none, 0, 0⟩ :=
  ⟨⟨hk, hn, by show (⟨#[]⟩ : ByteArray).size ≤ _; decide, by show ([] : List V).length ≤ _; decide⟩, rfl, rfl, rfl, rfl, rfl⟩
/-- what odd answers: a value that lies, whichever -/
def oddPost (px : Option Addr) (w : World) (e : Ending) (w' : World) : Prop := ∃ (u : V) (y : It), e = .returned y.v ∧ VAt 2 w' u y ∧ Below w.heap.size w w' ∧ ∀ b, b < w.heap.size → (∀ a, px = some a → a.block ≠ b) → ∀ (k n : Int) (s : ByteArray) (l : Value), VAt 2 (putBox w' b k n s l) u y

theorem items_oneCell : ∀ (ys : List It), ∀ u ∈ itsCells ys, u.oneCell' = true
  | [], u, hu => by cases hu
  | y :: ys, u, hu => by
    have hu' : u ∈ y.cells ++ itsCells ys := hu
    rcases List.mem_append.1 hu' with h | h
    · simp only [It.cells, List.mem_cons, List.mem_nil_iff, or_false] at h
      rcases h with rfl | rfl | rfl | rfl <;> rfl
    · exact items_oneCell ys u h
theorem itsCells_snoc (ys : List It) (y : It) : itsCells (ys ++ [y]) = itsCells ys ++ y.cells := by rw [itsCells_append]; rfl

/-- a list's cells in memory that was there, or in the call's own -/
def Lst (px : Option Addr) (w : World) (B : Nat) (W : World) (p : Option Addr) (m c : Nat) (us : List V) (ys : List It) : Prop :=
  ys.length = us.length ∧ m = ys.length ∧ Lies W (.slice p m c) ys.length 4 (itsCells ys) ∧ (∀ a, p = some a → m = 0 ∨ (px = some a ∧ a.block < w.heap.size) ∨ B ≤ a.block) ∧ ∀ (i : Nat) (h : i < ys.length) (h' : i < us.length), FlatAt us[i] ys[i]
theorem Lst.below {px : Option Addr} {w : World} {B : Nat} {W W' : World} {p : Option Addr} {m c : Nat} {us : List V} {ys : List It} (h : Lst px w B W p m c us ys) (hb : Below W.heap.size W W') : Lst px w B W' p m c us ys :=
  ⟨h.1, h.2.1, h.2.2.1.below hb, h.2.2.2⟩
theorem Lst.past {px : Option Addr} {w : World} {B : Nat} {W : World} {p : Option Addr} {m c : Nat} {us : List V} {ys : List It} (h : Lst px w B W p m c us ys) (b j : Nat) (h1 : w.heap.size ≤ b) (h2 : b < B) (u : Value) : Lst px w B (W.setCell ⟨b, j, none⟩ u) p m c us ys := by
  obtain ⟨k1, k2, k3, k4, k5⟩ := h
  refine ⟨k1, k2, ?_, k4, k5⟩
  rcases Nat.eq_zero_or_pos m with h0 | h0
  · have hy : ys = [] := List.eq_nil_of_length_eq_zero (by omega)
    subst hy
    subst h0
    exact ⟨rfl, .inl ⟨rfl, p, c, rfl⟩⟩
  · exact k3.past ⟨b, j, none⟩ (fun a m' c' ha => by
      injection ha with e1 _ _
      have := k4 a e1
      show a.block ≠ b
      omega) u
theorem Lst.old {px : Option Addr} {w : World} {B : Nat} {W : World} {p : Option Addr} {m c : Nat} {us : List V} {ys : List It} (h : Lst px w B W p m c us ys) (b j : Nat) (h1 : b < w.heap.size) (h2 : w.heap.size ≤ B) (h3 : ∀ a, px = some a → a.block ≠ b) (u : Value) : Lst px w B (W.setCell ⟨b, j, none⟩ u) p m c us ys := by
  obtain ⟨k1, k2, k3, k4, k5⟩ := h
  refine ⟨k1, k2, ?_, k4, k5⟩
  rcases Nat.eq_zero_or_pos m with h0 | h0
  · have hy : ys = [] := List.eq_nil_of_length_eq_zero (by omega)
    subst hy
    subst h0
    exact ⟨rfl, .inl ⟨rfl, p, c, rfl⟩⟩
  · exact k3.past ⟨b, j, none⟩ (fun a m' c' ha => by
      injection ha with e1 _ _
      show a.block ≠ b
      rcases k4 a e1 with e | ⟨e, _⟩ | e
      · omega
      · exact h3 a e
      · omega) u
theorem Lst.put {px : Option Addr} {w : World} {B : Nat} {W : World} {p : Option Addr} {m c : Nat} {us : List V} {ys : List It} (h : Lst px w B W p m c us ys) {b : Nat} (h1 : b < w.heap.size) (h2 : w.heap.size ≤ B) (h3 : ∀ a, px = some a → a.block ≠ b) (k n : Int) (s : ByteArray) (l : Value) : Lst px w B (putBox W b k n s l) p m c us ys :=
  (((h.old b 0 h1 h2 h3 _).old b 1 h1 h2 h3 _).old b 2 h1 h2 h3 _).old b 3 h1 h2 h3 _
theorem Lst.at {px : Option Addr} {w : World} {B : Nat} {W : World} {p : Option Addr} {m c : Nat} {us : List V} {ys : List It} (h : Lst px w B W p m c us ys) (k n : Int) (s : ByteArray) (hk : -9223372036854775808 ≤ k ∧ k ≤ 9223372036854775807) (hn : -9223372036854775808 ≤ n ∧ n ≤ 9223372036854775807) (hs : s.size ≤ 9223372036854775807) (hl : us.length ≤ 9223372036854775807) (d : Nat) :
    VAt (d + 1) W (.mk k n s us) ⟨k, n, s, p, m, c⟩ := by
  obtain ⟨k1, k2, k3, k4, k5⟩ := h
  exact ⟨⟨hk, hn, hs, hl⟩, rfl, rfl, rfl, ys, k1, by subst k2; exact k3, fun i a b => (k5 i a b).at d W⟩
theorem Lst.own {px : Option Addr} {w : World} {B : Nat} {W : World} {p : Option Addr} {m c : Nat} {us : List V} {ys : List It} (h1 : ys.length = us.length) (hm : m = ys.length) (ho : W.ownsRow B 30 4 (.slice p m c) m (itsCells ys)) (hf : ∀ (i : Nat) (h : i < ys.length) (h' : i < us.length), FlatAt us[i] ys[i]) : Lst px w B W p m c us ys :=
  ⟨h1, hm, by rw [← hm]; exact Lies.own ho, fun a ha => .inr (.inr (by subst ha; exact (ho.lt a.block rfl).1)), hf⟩
theorem flat_snoc {us : List V} {ys : List It} (hl : ys.length = us.length) (hf : ∀ (i : Nat) (h : i < ys.length) (h' : i < us.length), FlatAt us[i] ys[i]) {u : V} {y : It} (hu : FlatAt u y) : ∀ (i : Nat) (h : i < (ys ++ [y]).length) (h' : i < (us ++ [u]).length), FlatAt (us ++ [u])[i] (ys ++ [y])[i] := by
  intro i h h'
  by_cases hi : i < ys.length
  · rw [List.getElem_append_left hi, List.getElem_append_left (by rw [← hl]; exact hi)]
    exact hf i hi _
  · have : i = ys.length := by simp at h; omega
    subst this
    rw [List.getElem_append_right (by omega), List.getElem_append_right (by omega)]
    simpa [hl] using hu
theorem lst_of {w : World} {v : V} {x : It} (h : VAt 1 w v x) (B : Nat) : ∃ ys, Lst x.p w B w x.p x.m x.c v.l ys := by
  have hlen := h.top.len
  obtain ⟨h0, h1, h2, h3, ys, h4, h5, h6⟩ := h
  refine ⟨ys, h4, by rw [hlen, h4], h5, fun a ha => ?_, fun i a b => FlatAt.of (h6 i a b)⟩
  rcases h5.2 with ⟨e, p, c, hv⟩ | ⟨b, off, c, hv, hb, _⟩
  · injection hv with _ e2 _; exact .inl e2
  · injection hv with e1 _ _
    rw [ha] at e1
    cases Option.some.inj e1
    exact .inr (.inl ⟨by rw [ha], hb⟩)

set_option maxHeartbeats 4000000 in
set_option maxRecDepth 100000 in
theorem odd_any (v : V) (x : It) (which N : Int) (hw1 : -9223372036854775808 ≤ which) (hw2 : which ≤ 9223372036854775807) (hn1 : -9223372036854775808 ≤ N) (hn2 : N ≤ 9223372036854775807) (t : ByteArray) (ht : t.size ≤ 9223372036854775807) (w : World) (hx : VAt 1 w v x) (hl : v.l.length ≤ 12) :
    Calls Tryz.prog 6 #[x.v, .int .i64 which, .int .i64 N, .string t] w (oddPost x.p w) := by
  obtain ⟨i0, hi, hz0, hz1, hz2⟩ := info_parts infoVal
  have hf := hx.top.1
  have hxk := hx.top.2.1
  have hxn := hx.top.2.2.1
  have hxs := hx.top.2.2.2.1
  have hp6 := fun w => pick_any which 6 hw1 hw2 (by decide) (by decide) w
  have hb6 := pickI_bd which 6 (by decide)
  generalize pickI which 6 = q at hp6 hb6
  have hp7 := fun w => pick_any N 7 hn1 hn2 (by decide) (by decide) w
  have hb7 := pickI_bd N 7 (by decide)
  have hp14 := fun w => pick_any N 14 hn1 hn2 (by decide) (by decide) w
  have hb14 := pickI_bd N 14 (by decide)
  generalize pickI N 7 = q7 at hp7 hb7
  obtain ⟨q14, hq14⟩ : ∃ q : Nat, pickI N 14 = (q : Int) := ⟨(pickI N 14).toNat, by omega⟩
  rw [hq14] at hp14 hb14
  have hq14' : q14 < 14 := by omega
  clear hq14 hb14
  obtain ⟨ys, hLs⟩ := lst_of hx (w.heap.size + 2)
  have hl' : ys.length ≤ 12 := by rw [hLs.1]; exact hl
  obtain ⟨k, n, s, p, m, c⟩ := x
  simp only at hxk hxn hxs hLs ⊢
  suffices H : ∀ px, px = p → Calls Tryz.prog 6 #[valV k n s (.slice p m c), .int .i64 which, .int .i64 N, .string t] w (oddPost px w) from H p rfl
  intro px hpx
  have hLs : Lst px w (w.heap.size + 2) w p m c v.l ys := by rw [hpx]; exact hLs
  have HPX := Lib.hid hpx
  clear hpx
  have hkb : -9223372036854775808 ≤ k ∧ k ≤ 9223372036854775807 := by rw [hxk]; exact hf.k
  have hnb : -9223372036854775808 ≤ n ∧ n ≤ 9223372036854775807 := by rw [hxn]; exact hf.n
  have hsb : s.size ≤ 9223372036854775807 := by rw [hxs]; exact hf.s
  have hB2 := below_two (w := w) (.cells #[.int .i64 k, .int .i64 n, .string s, .slice p m c] 30) (.cells #[.int .i64 0, .int .i64 0, .string ⟨#[]⟩, .slice none 0 0] 30)
  have hX := (VBox.new w k n s (.slice p m c)).alloc (.cells #[.int .i64 0, .int .i64 0, .string ⟨#[]⟩, .slice none 0 0] 30)
  have hO := VBox.new (w.alloc (.cells #[.int .i64 k, .int .i64 n, .string s, .slice p m c] 30)) 0 0 ⟨#[]⟩ (.slice none 0 0)
  rw [World.size_alloc] at hO
  have hLs2 := hLs.below hB2
  have hx2 := hx.below hB2
  have HX0 := Lib.hid hx
  have hve : v = .mk k n s v.l := by obtain ⟨vk, vn, vs, vl⟩ := v; simp only [V.k, V.n, V.s] at hxk hxn hxs; subst hxk hxn hxs; rfl
  have HVE := Lib.hid hve
  clear hve
  have HP6 := Lib.hid hp6
  have HP7 := Lib.hid hp7
  have HP14 := Lib.hid hp14
  have HX := Lib.hid hX
  have HO := Lib.hid hO
  have HLS := Lib.hid hLs2
  have HXV := Lib.hid hx2
  have HB2 := Lib.hid hB2
  have HF := Lib.hid hf
  have HKB := Lib.hid hkb
  have HNB := Lib.hid hnb
  clear hxk hxn hxs hp6 hp7 hp14 hX hO hLs hLs2 hx hx2 hB2 hf hkb hnb
  have h01 : w.heap.size ≠ w.heap.size + 1 := by omega
  obtain ⟨hq1, hq2⟩ := hb6
  go_enter Tryz.func6, Tryz.ntmps6
  go_wp2_with fail
  refine (HP6.out _).mono ?_
  rintro e W1 ⟨rfl, rfl⟩
  have hW2 : ((w.alloc (.cells #[.int .i64 k, .int .i64 n, .string s, .slice p m c] 30)).alloc (.cells #[.int .i64 0, .int .i64 0, .string ⟨#[]⟩, .slice none 0 0] 30)).heap.size = w.heap.size + 2 := by simp
  generalize (w.alloc (.cells #[.int .i64 k, .int .i64 n, .string s, .slice p m c] 30)).alloc (.cells #[.int .i64 0, .int .i64 0, .string ⟨#[]⟩, .slice none 0 0] 30) = W at HX HO HLS HXV HB2 hW2 ⊢
  obtain ⟨⟨c0, c1, c2, c3⟩, f0, f1, f2, f3⟩ := HX.out.facts
  obtain ⟨⟨e0, e1, e2, e3⟩, g0, g1, g2, g3⟩ := HO.out.facts
  by_cases h0 : q = 0
  · subst h0
    go_wp2_with fail
    have hB1 := HB2.out.setCell (p := ⟨w.heap.size, 0, none⟩) (Nat.le_refl _) (.int .i64 N)
    obtain ⟨hV, hB⟩ := out_box (HO.out.past ⟨w.heap.size, 0, none⟩ (by show w.heap.size + 1 ≠ w.heap.size; omega) (.int .i64 N)) hB1 (by omega) (N) (n) s (.slice p m c)
    have hL9 := ((((HLS.out.past w.heap.size 0 (Nat.le_refl _) (by omega) (.int .i64 N)).past (w.heap.size + 1) 0 (by omega) (by omega) (.int .i64 (N))).past (w.heap.size + 1) 1 (by omega) (by omega) (.int .i64 (n))).past (w.heap.size + 1) 2 (by omega) (by omega) (.string s)).past (w.heap.size + 1) 3 (by omega) (by omega) (.slice p m c)
    unfold putBox at hV hB
    generalize (((((W.setCell ⟨w.heap.size, 0, none⟩ (.int .i64 N)).setCell ⟨w.heap.size + 1, 0, none⟩ (.int .i64 (N))).setCell ⟨w.heap.size + 1, 1, none⟩ (.int .i64 (n))).setCell ⟨w.heap.size + 1, 2, none⟩ (.string s)).setCell ⟨w.heap.size + 1, 3, none⟩ (.slice p m c)) = W9 at hV hB hL9 ⊢
    obtain ⟨⟨x0, x1, x2, x3⟩, _⟩ := hV.facts
    exact bodyPost_ret (v := valV (N) (n) s (.slice p m c)) (by simp [results, Tryz.results6, go_sem, x0, x1, x2, x3]) rfl ⟨.mk (N) (n) s v.l, ⟨N, n, s, p, m, c⟩, rfl, hL9.at _ _ _ ⟨hn1, hn2⟩ HNB.out hsb (by omega) 1, hB, fun b hb hne k' n' s' l' => (hL9.put hb (by omega) hne k' n' s' l').at _ _ _ ⟨hn1, hn2⟩ HNB.out hsb (by omega) 1⟩
  · by_cases h1 : q = 1
    · subst h1
      go_wp2_with fail
      have hB1 := HB2.out.setCell (p := ⟨w.heap.size, 1, none⟩) (Nat.le_refl _) (.int .i64 N)
      obtain ⟨hV, hB⟩ := out_box (HO.out.past ⟨w.heap.size, 1, none⟩ (by show w.heap.size + 1 ≠ w.heap.size; omega) (.int .i64 N)) hB1 (by omega) (k) (N) s (.slice p m c)
      have hL9 := ((((HLS.out.past w.heap.size 1 (Nat.le_refl _) (by omega) (.int .i64 N)).past (w.heap.size + 1) 0 (by omega) (by omega) (.int .i64 (k))).past (w.heap.size + 1) 1 (by omega) (by omega) (.int .i64 (N))).past (w.heap.size + 1) 2 (by omega) (by omega) (.string s)).past (w.heap.size + 1) 3 (by omega) (by omega) (.slice p m c)
      unfold putBox at hV hB
      generalize (((((W.setCell ⟨w.heap.size, 1, none⟩ (.int .i64 N)).setCell ⟨w.heap.size + 1, 0, none⟩ (.int .i64 (k))).setCell ⟨w.heap.size + 1, 1, none⟩ (.int .i64 (N))).setCell ⟨w.heap.size + 1, 2, none⟩ (.string s)).setCell ⟨w.heap.size + 1, 3, none⟩ (.slice p m c)) = W9 at hV hB hL9 ⊢
      obtain ⟨⟨x0, x1, x2, x3⟩, _⟩ := hV.facts
      exact bodyPost_ret (v := valV (k) (N) s (.slice p m c)) (by simp [results, Tryz.results6, go_sem, x0, x1, x2, x3]) rfl ⟨.mk (k) (N) s v.l, ⟨k, N, s, p, m, c⟩, rfl, hL9.at _ _ _ HKB.out ⟨hn1, hn2⟩ hsb (by omega) 1, hB, fun b hb hne k' n' s' l' => (hL9.put hb (by omega) hne k' n' s' l').at _ _ _ HKB.out ⟨hn1, hn2⟩ hsb (by omega) 1⟩
    · by_cases h2 : q = 2
      · subst h2
        go_wp2_with fail
        have hB1 := HB2.out.setCell (p := ⟨w.heap.size, 2, none⟩) (Nat.le_refl _) (.string t)
        obtain ⟨hV, hB⟩ := out_box (HO.out.past ⟨w.heap.size, 2, none⟩ (by show w.heap.size + 1 ≠ w.heap.size; omega) (.string t)) hB1 (by omega) (k) (n) t (.slice p m c)
        have hL9 := ((((HLS.out.past w.heap.size 2 (Nat.le_refl _) (by omega) (.string t)).past (w.heap.size + 1) 0 (by omega) (by omega) (.int .i64 (k))).past (w.heap.size + 1) 1 (by omega) (by omega) (.int .i64 (n))).past (w.heap.size + 1) 2 (by omega) (by omega) (.string t)).past (w.heap.size + 1) 3 (by omega) (by omega) (.slice p m c)
        unfold putBox at hV hB
        generalize (((((W.setCell ⟨w.heap.size, 2, none⟩ (.string t)).setCell ⟨w.heap.size + 1, 0, none⟩ (.int .i64 (k))).setCell ⟨w.heap.size + 1, 1, none⟩ (.int .i64 (n))).setCell ⟨w.heap.size + 1, 2, none⟩ (.string t)).setCell ⟨w.heap.size + 1, 3, none⟩ (.slice p m c)) = W9 at hV hB hL9 ⊢
        obtain ⟨⟨x0, x1, x2, x3⟩, _⟩ := hV.facts
        exact bodyPost_ret (v := valV (k) (n) t (.slice p m c)) (by simp [results, Tryz.results6, go_sem, x0, x1, x2, x3]) rfl ⟨.mk (k) (n) t v.l, ⟨k, n, t, p, m, c⟩, rfl, hL9.at _ _ _ HKB.out HNB.out ht (by omega) 1, hB, fun b hb hne k' n' s' l' => (hL9.put hb (by omega) hne k' n' s' l').at _ _ _ HKB.out HNB.out ht (by omega) 1⟩
      · by_cases h3 : q = 3
        · subst h3
          have hLm : Lies W (.slice p m c) m 4 (itsCells ys) := by have := HLS.out.2.2.1; rwa [← HLS.out.2.1] at this
          have hml : m ≤ 12 := by have := HLS.out.2.1; omega
          go_wp2_with (at_builtin; refine wpList_append_copy rfl _ _ _ rfl (w.heap.size + 2) 30 i0 _ 4 56 Tryz.underlying28 hi hz0 hz1 hz2 rfl (by omega) rfl p m c (itsCells ys) rfl hLm (items_oneCell ys) (by unfold maxLen; omega) (by omega) (by omega) ?_; intro p' c' w1 hown hg)
          refine (HP7.out _).mono ?_
          rintro e w1' ⟨rfl, rfl⟩
          have hX1 : VBox w1 w.heap.size k n s (.slice p m c) := Bx.grown (T := 30) HX.out hg (fun e => by cases e)
          have hO1 : VBox w1 (w.heap.size + 1) 0 0 ⟨#[]⟩ (.slice none 0 0) := Bx.grown (T := 30) HO.out hg (fun e => by cases e)
          have hB1 : Below w.heap.size w w1 := HB2.out.grown hg (by omega) (fun g hg' => by cases hg')
          have hz1' : w.heap.size + 2 ≤ w1.heap.size := by have := hO1.lt; have := hg.size; omega
          clear c0 c1 c2 c3 f0 f1 f2 f3 e0 e1 e2 e3 g0 g1 g2 g3 hg hLm
          have HX1 := Lib.hid hX1
          have HO1 := Lib.hid hO1
          have HB1 := Lib.hid hB1
          clear hX1 hO1 hB1
          go_wp2_with (at_builtin; refine wpList_append_lies _ rfl _ _ _ rfl (w.heap.size + 2) 30 i0 _ 4 56 Tryz.underlying28 hi hz0 hz1 hz2 rfl (by omega) _ m _ rfl (hown.alloc _) ⟨w1.heap.size, 0, none⟩ 1 1 [.int .i64 q7, .int .i64 N, .string ⟨#[]⟩, .slice none 0 0] rfl rfl (World.news_of_block (cs := #[.int .i64 q7, .int .i64 N, .string ⟨#[]⟩, .slice none 0 0]) (t := 30) (fr := (0, 0)) (heap_alloc_new w1 _)) (by simp [Value.oneCell']) (by omega) (by simp [maxLen]; omega) (by omega) (by simp; omega) (w1.heap.size + 1) (by simp) ?_; intro gg cap w2 hown1 hgrow hat hlt2; have hgo := fun g (hg' : Value.ownBlock (.slice p' m c') = some g) => ((hown.alloc (.cells #[.int .i64 q7, .int .i64 N, .string ⟨#[]⟩, .slice none 0 0] 30)).lt g hg').1; have hX2 : VBox w2 w.heap.size k n s (.slice p m c) := Bx.grown (T := 30) (HX1.out.alloc _) hgrow (fun e => by have := hgo _ e.symm; omega); obtain ⟨⟨c0, c1, c2, c3⟩, f0, f1, f2, f3⟩ := hX2.facts; have hO2 : VBox w2 (w.heap.size + 1) 0 0 ⟨#[]⟩ (.slice none 0 0) := Bx.grown (T := 30) (HO1.out.alloc _) hgrow (fun e => by have := hgo _ e.symm; omega); obtain ⟨⟨e0, e1, e2, e3⟩, g0, g1, g2, g3⟩ := hO2.facts)
          have hB2 : Below w.heap.size w w2 := (HB1.out.alloc (by omega) _).grown hgrow (by simp; omega) (fun g hg' => by have := hgo g hg'; omega)
          have hLst : Lst px w (w.heap.size + 2) w2 (some ⟨gg, 0, none⟩) (m + 1) cap (v.l ++ [.mk q7 N ⟨#[]⟩ []]) (ys ++ [⟨q7, N, ⟨#[]⟩, none, 0, 0⟩]) :=
            Lst.own (by simp [HLS.out.1]) (by simp [HLS.out.2.1]) (by rw [itsCells_snoc]; exact hown1) (flat_snoc HLS.out.1 HLS.out.2.2.2.2 (flat_bare ⟨by omega, by omega⟩ ⟨hn1, hn2⟩))
          have hB3 := hB2.setCell (p := ⟨w.heap.size, 3, none⟩) (Nat.le_refl _) (.slice (some ⟨gg, 0, none⟩) (m + 1) cap)
          obtain ⟨hV, hB⟩ := out_box (hO2.past ⟨w.heap.size, 3, none⟩ (by show w.heap.size + 1 ≠ w.heap.size; omega) (.slice (some ⟨gg, 0, none⟩) (m + 1) cap)) hB3 (by omega) k n s (.slice (some ⟨gg, 0, none⟩) (m + 1) cap)
          have hL9 := ((((hLst.past w.heap.size 3 (Nat.le_refl _) (by omega) (.slice (some ⟨gg, 0, none⟩) (m + 1) cap)).past (w.heap.size + 1) 0 (by omega) (by omega) (.int .i64 k)).past (w.heap.size + 1) 1 (by omega) (by omega) (.int .i64 n)).past (w.heap.size + 1) 2 (by omega) (by omega) (.string s)).past (w.heap.size + 1) 3 (by omega) (by omega) (.slice (some ⟨gg, 0, none⟩) (m + 1) cap)
          unfold putBox at hV hB
          generalize (((((w2.setCell ⟨w.heap.size, 3, none⟩ (.slice (some ⟨gg, 0, none⟩) (m + 1) cap)).setCell ⟨w.heap.size + 1, 0, none⟩ (.int .i64 k)).setCell ⟨w.heap.size + 1, 1, none⟩ (.int .i64 n)).setCell ⟨w.heap.size + 1, 2, none⟩ (.string s)).setCell ⟨w.heap.size + 1, 3, none⟩ (.slice (some ⟨gg, 0, none⟩) (m + 1) cap)) = W9 at hV hB hL9 ⊢
          obtain ⟨⟨x0, x1, x2, x3⟩, _⟩ := hV.facts
          exact bodyPost_ret (v := valV k n s (.slice (some ⟨gg, 0, none⟩) (m + 1) cap)) (by simp [results, Tryz.results6, go_sem, x0, x1, x2, x3]) rfl ⟨_, ⟨k, n, s, some ⟨gg, 0, none⟩, m + 1, cap⟩, rfl, hL9.at _ _ _ HKB.out HNB.out hsb (by simp; omega) 1, hB, fun b hb hne k' n' s' l' => (hL9.put hb (by omega) hne k' n' s' l').at _ _ _ HKB.out HNB.out hsb (by simp; omega) 1⟩
        · by_cases h4 : q = 4
          · subst h4
            clear e0 e1 e2 e3 g0 g1 g2 g3 c0 c1 c2 c3 f0 f1 f2 f3
            go_wp2_with fail
            go_loopw [9] (fun o wr => ∃ (i : Nat) (us : List V) (ys : List It) (p : Option Addr) (m c : Nat), i ≤ q14 ∧ o = .int .i64 (i : Int) ∧ VBox wr w.heap.size k n s (.slice p m c) ∧ VBox wr (w.heap.size + 1) 0 0 ⟨#[]⟩ (.slice none 0 0) ∧ Lst px w (w.heap.size + 2) wr p m c us ys ∧ ys.length ≤ 12 + i ∧ Below w.heap.size w wr) (fun o _ => q14 - (intOf o).toNat)
            case atStart => exact ⟨0, v.l, ys, p, m, c, by omega, rfl, HX.out, HO.out, HLS.out, by omega, HB2.out⟩
            case round =>
              obtain ⟨i, us, ys, p, m, c, hiq, rfl, hX, hO, hLs, hyl, hB⟩ := hrel
              clear HX HO HLS HXV HB2 hl'
              have hzr : w.heap.size + 2 ≤ wr.heap.size := by have := hO.lt; omega
              have hml : m ≤ 26 := by have := hLs.2.1; omega
              obtain ⟨⟨c0, c1, c2, c3⟩, f0, f1, f2, f3⟩ := hX.facts
              obtain ⟨⟨e0, e1, e2, e3⟩, g0, g1, g2, g3⟩ := hO.facts
              have HX := Lib.hid hX
              have HO := Lib.hid hO
              have HLS := Lib.hid hLs
              have HB := Lib.hid hB
              clear hX hO hLs hB
              by_cases hlt : i < q14
              · have d1 : decide (i < q14) = true := decide_eq_true hlt
                have hLm : Lies wr (.slice p m c) m 4 (itsCells ys) := by have := HLS.out.2.2.1; rwa [← HLS.out.2.1] at this
                go_wp2_with fail
                refine (HP14.out _).mono ?_
                rintro e w1' ⟨rfl, rfl⟩
                have hX1 : ∀ w1, wr.grownBy w1 none → VBox w1 w.heap.size k n s (.slice p m c) ∧ VBox w1 (w.heap.size + 1) 0 0 ⟨#[]⟩ (.slice none 0 0) ∧ Below w.heap.size w w1 := fun w1 hg => ⟨Bx.grown (T := 30) HX.out hg (fun e => by cases e), Bx.grown (T := 30) HO.out hg (fun e => by cases e), HB.out.grown hg (by omega) (fun g hg' => by cases hg')⟩
                have HX1 := Lib.hid hX1
                clear hX1
                go_wp2_with (first
                  | (at_builtin; refine wpList_append_copy rfl _ _ _ rfl (w.heap.size + 2) 30 i0 _ 4 56 Tryz.underlying28 hi hz0 hz1 hz2 rfl (by omega) rfl p m c (itsCells ys) rfl hLm (items_oneCell ys) (by unfold maxLen; omega) (by omega) (by omega) ?_; intro p' c' w1 hown hg; have hs1 := HX1.out w1 hg; have hz1' : wr.heap.size ≤ w1.heap.size := hg.size; clear c0 c1 c2 c3 f0 f1 f2 f3 e0 e1 e2 e3 g0 g1 g2 g3)
                  | (at_builtin; refine wpList_append_lies _ rfl _ _ _ rfl (w.heap.size + 2) 30 i0 _ 4 56 Tryz.underlying28 hi hz0 hz1 hz2 rfl (by omega) _ m _ rfl (hown.alloc _) ⟨w1.heap.size, 0, none⟩ 1 1 [.int .i64 1, .int .i64 (i : Int), .string ⟨#[]⟩, .slice none 0 0] rfl rfl (World.news_of_block (cs := #[.int .i64 1, .int .i64 (i : Int), .string ⟨#[]⟩, .slice none 0 0]) (t := 30) (fr := (0, 0)) (heap_alloc_new w1 _)) (by simp [Value.oneCell']) (by omega) (by simp [maxLen]; omega) (by omega) (by simp; omega) (w1.heap.size + 1) (by simp) ?_; intro gg cap w2 hown1 hgrow hat hlt2; have hgo := fun g (hg' : Value.ownBlock (.slice p' m c') = some g) => ((hown.alloc (.cells #[.int .i64 1, .int .i64 (i : Int), .string ⟨#[]⟩, .slice none 0 0] 30)).lt g hg').1; have hX2 : VBox w2 w.heap.size k n s (.slice p m c) := Bx.grown (T := 30) (hs1.1.alloc _) hgrow (fun e => by have := hgo _ e.symm; omega); obtain ⟨⟨c0, c1, c2, c3⟩, f0, f1, f2, f3⟩ := hX2.facts; have hO2 : VBox w2 (w.heap.size + 1) 0 0 ⟨#[]⟩ (.slice none 0 0) := Bx.grown (T := 30) (hs1.2.1.alloc _) hgrow (fun e => by have := hgo _ e.symm; omega); obtain ⟨⟨e0, e1, e2, e3⟩, g0, g1, g2, g3⟩ := hO2.facts))
                have hB2 : Below w.heap.size w w2 := (hs1.2.2.alloc (by omega) _).grown hgrow (by simp; omega) (fun g hg' => by have := hgo g hg'; omega)
                have hLst : Lst px w (w.heap.size + 2) w2 (some ⟨gg, 0, none⟩) (m + 1) cap (us ++ [.mk 1 (i : Int) ⟨#[]⟩ []]) (ys ++ [⟨1, (i : Int), ⟨#[]⟩, none, 0, 0⟩]) :=
                  Lst.own (by simp [HLS.out.1]) (by simp [HLS.out.2.1]) (by rw [itsCells_snoc]; exact hown1) (flat_snoc HLS.out.1 HLS.out.2.2.2.2 (flat_bare ⟨by decide, by decide⟩ ⟨by omega, by omega⟩))
                exact ⟨⟨i + 1, _, _, _, _, _, by omega, by go_num, hX2.set3 _, hO2.past ⟨w.heap.size, 3, none⟩ (by show w.heap.size + 1 ≠ w.heap.size; omega) _, hLst.past w.heap.size 3 (Nat.le_refl _) (by omega) _, by simp; omega, hB2.setCell (p := ⟨w.heap.size, 3, none⟩) (Nat.le_refl _) _⟩, by simp [intOf]; omega⟩
              · have d1 : decide (i < q14) = false := decide_eq_false hlt
                go_wp2_with fail
                refine (HP14.out _).mono ?_
                rintro e w1' ⟨rfl, rfl⟩
                go_wp2_with fail
                obtain ⟨hV, hB⟩ := out_box HO.out HB.out (by omega) k n s (.slice p m c)
                have hL9 := (((HLS.out.past (w.heap.size + 1) 0 (by omega) (by omega) (.int .i64 k)).past (w.heap.size + 1) 1 (by omega) (by omega) (.int .i64 n)).past (w.heap.size + 1) 2 (by omega) (by omega) (.string s)).past (w.heap.size + 1) 3 (by omega) (by omega) (.slice p m c)
                have hul : us.length ≤ 9223372036854775807 := by have := HLS.out.1; omega
                unfold putBox at hV hB
                generalize ((((wr.setCell ⟨w.heap.size + 1, 0, none⟩ (.int .i64 k)).setCell ⟨w.heap.size + 1, 1, none⟩ (.int .i64 n)).setCell ⟨w.heap.size + 1, 2, none⟩ (.string s)).setCell ⟨w.heap.size + 1, 3, none⟩ (.slice p m c)) = W9 at hV hB hL9 ⊢
                obtain ⟨⟨x0, x1, x2, x3⟩, _⟩ := hV.facts
                exact bodyPost_ret (v := valV k n s (.slice p m c)) (by simp [results, Tryz.results6, go_sem, x0, x1, x2, x3]) rfl ⟨_, ⟨k, n, s, p, m, c⟩, rfl, hL9.at _ _ _ HKB.out HNB.out hsb hul 1, hB, fun b hb hne k' n' s' l' => (hL9.put hb (by omega) hne k' n' s' l').at _ _ _ HKB.out HNB.out hsb hul 1⟩
          · have d0 : (q == 0) = false := beq_eq_false_iff_ne.2 h0
            have d1 : (q == 1) = false := beq_eq_false_iff_ne.2 h1
            have d2 : (q == 2) = false := beq_eq_false_iff_ne.2 h2
            have d3 : (q == 3) = false := beq_eq_false_iff_ne.2 h3
            have d4 : (q == 4) = false := beq_eq_false_iff_ne.2 h4
            clear h0 h1 h2 h3 h4
            have hXa := HX.out.alloc (.cells #[.int .i64 k, .int .i64 n, .string s, .slice p m c] 30)
            obtain ⟨⟨c0', c1', c2', c3'⟩, _⟩ := hXa.facts
            go_wp2_with fail
            have hB1 := HB2.out.setCell (p := ⟨w.heap.size, 3, none⟩) (Nat.le_refl _) (.slice (some ⟨w.heap.size + 2, 0, none⟩) 1 1)
            obtain ⟨hV0, hB0⟩ := out_box (HO.out.past ⟨w.heap.size, 3, none⟩ (by show w.heap.size + 1 ≠ w.heap.size; omega) (.slice (some ⟨w.heap.size + 2, 0, none⟩) 1 1)) hB1 (by omega) k n s (.slice (some ⟨w.heap.size + 2, 0, none⟩) 1 1)
            unfold putBox at hV0 hB0
            have h8 : (((((W.setCell ⟨w.heap.size, 3, none⟩ (.slice (some ⟨w.heap.size + 2, 0, none⟩) 1 1)).setCell ⟨w.heap.size + 1, 0, none⟩ (.int .i64 k)).setCell ⟨w.heap.size + 1, 1, none⟩ (.int .i64 n)).setCell ⟨w.heap.size + 1, 2, none⟩ (.string s)).setCell ⟨w.heap.size + 1, 3, none⟩ (.slice (some ⟨w.heap.size + 2, 0, none⟩) 1 1)).heap.size = w.heap.size + 2 := by simp [hW2]
            generalize ((((W.setCell ⟨w.heap.size, 3, none⟩ (.slice (some ⟨w.heap.size + 2, 0, none⟩) 1 1)).setCell ⟨w.heap.size + 1, 0, none⟩ (.int .i64 k)).setCell ⟨w.heap.size + 1, 1, none⟩ (.int .i64 n)).setCell ⟨w.heap.size + 1, 2, none⟩ (.string s)).setCell ⟨w.heap.size + 1, 3, none⟩ (.slice (some ⟨w.heap.size + 2, 0, none⟩) 1 1) = W8 at hV0 hB0 h8 ⊢
            have hV := hV0.alloc (.cells #[.int .i64 k, .int .i64 n, .string s, .slice p m c] 30)
            have hB := hB0.alloc hB0.size (.cells #[.int .i64 k, .int .i64 n, .string s, .slice p m c] 30)
            have hN := Bx.new W8 30 #[.int .i64 k, .int .i64 n, .string s, .slice p m c]
            rw [h8] at hN
            generalize W8.alloc (.cells #[.int .i64 k, .int .i64 n, .string s, .slice p m c] 30) = W9 at hV hB hN ⊢
            obtain ⟨⟨x0, x1, x2, x3⟩, _⟩ := hV.facts
            refine bodyPost_ret (v := valV k n s (.slice (some ⟨w.heap.size + 2, 0, none⟩) 1 1)) (by simp [results, Tryz.results6, go_sem, x0, x1, x2, x3]) rfl ⟨.mk k n s [v], ⟨k, n, s, some ⟨w.heap.size + 2, 0, none⟩, 1, 1⟩, rfl, ⟨⟨HKB.out, HNB.out, hsb, by show ([v] : List V).length ≤ _; simp⟩, rfl, rfl, rfl, [⟨k, n, s, p, m, c⟩], rfl, hN.lies rfl rfl, fun i h h' => by
              obtain rfl : i = 0 := by simp at h; omega
              exact HX0.out.below hB⟩, hB, fun b hb hne k' n' s' l' => ?_⟩
            obtain ⟨ys0, hL0⟩ := lst_of HX0.out (w.heap.size + 2)
            have hne' : ∀ a, p = some a → a.block ≠ b := fun a ha => hne a (by rw [HPX.out]; exact ha)
            have h1 := ((hL0.below hB).put hb (by omega) hne' k' n' s' l').at k n s HKB.out HNB.out hsb (by have := hl; omega) 0
            have hlz := hN.lies (n := 1) (c := 1) (size := 4) rfl rfl
            have hq : ∀ a m'' c'', (Value.slice (some ⟨w.heap.size + 2, 0, none⟩) 1 1) = .slice (some a) m'' c'' → a.block ≠ b := fun a m'' c'' ha => by
              injection ha with e1 _ _
              cases Option.some.inj e1
              show w.heap.size + 2 ≠ b
              omega
            exact ⟨⟨HKB.out, HNB.out, hsb, by show ([v] : List V).length ≤ _; simp⟩, rfl, rfl, rfl, [⟨k, n, s, p, m, c⟩], rfl, (((hlz.past ⟨b, 0, none⟩ hq _).past ⟨b, 1, none⟩ hq _).past ⟨b, 2, none⟩ hq _).past ⟨b, 3, none⟩ hq _, fun i h h' => by
              obtain rfl : i = 0 := by simp at h; omega
              have e : v = .mk k n s v.l := HVE.out
              show VAt 1 _ v _
              rw [e]
              exact h1⟩
end Go.Proofs.YtmijlcilnaeppaaGreatDoor

/- Texts put together: ValLayE, ShelfT, ValEnc, Quote. -/
import Derived.Test.YtmijlcilnaeppaaGreatDoorBun6
import Derived.Test.YtmijlcilnaeppaaGreatDoorBun3
import Derived.Test.YtmijlcilnaeppaaGreatDoorBun7
/- val.lay of lists without items. -/
set_option linter.unusedSimpArgs false
set_option linter.unusedVariables false
namespace Go.Proofs.YtmijlcilnaeppaaGreatDoor
open Go Go.RowKit Go.Shelf

set_option maxHeartbeats 4000000 in
set_option maxRecDepth 100000 in
theorem lay_empty' (B b : Nat) (l : List UInt8) (n : Int) (s : ByteArray) (p : Option Addr) (c : Nat) (w : World) (h : Holds B b l w)
    (hlen : l.length + (Wire.num 5).length + (Wire.num 0).length ≤ 140737488355328) :
    Calls Tryz.prog 31 #[.pointer (some ⟨b, 0, none⟩), valV 5 n s (.slice p 0 c)] w fun e w' => e = .returned (.tuple #[]) ∧ Laid B b (l ++ Wire.num 5 ++ Wire.num 0) w w' := by
  have hlt := holds_lt h
  have h0 := laid_box h (.cells #[.int .i64 5, .int .i64 n, .string s, .slice p 0 c] 30)
  have b0 : (w.alloc (.cells #[.int .i64 5, .int .i64 n, .string s, .slice p 0 c] 30)).heap[w.heap.size]? = some (.cells #[.int .i64 5, .int .i64 n, .string s, .slice p 0 c] 30 (0, 0)) := World.alloc_heap_new _ _
  go_enter Tryz.func31, Tryz.ntmps31
  go_wp2_with fail
  refine (num_any 5 (by decide) (by decide) _).mono ?_
  rintro e w1 ⟨rfl, hB1⟩
  obtain ⟨h1, b1⟩ := laid_call h0 hB1 (by simp; omega) b0
  go_wp2_with fail
  refine (writeString_laid B b l _ _ h1.1 (by omega)).mono ?_
  rintro e w2 ⟨rfl, hL⟩
  obtain ⟨h2, b2⟩ := laid_write h1 hL b1 (by omega)
  have c0 : w2.cell? ⟨w.heap.size, 0, none⟩ = some (.int .i64 5) := by rw [Lib.cell_of_heap b2]; rfl
  have c3 : w2.cell? ⟨w.heap.size, 3, none⟩ = some (.slice p 0 c) := by rw [Lib.cell_of_heap b2]; rfl
  clear h0 b0 h1 b1 hB1 hL
  go_wp2_with fail
  refine (num_any 0 (by omega) (by omega) _).mono ?_
  rintro e w3 ⟨rfl, hB3⟩
  obtain ⟨h3, b3⟩ := laid_call h2 hB3 (by have := holds_lt h2.1; omega) b2
  go_wp2_with fail
  refine (writeString_laid B b _ _ _ h3.1 (by rw [List.length_append]; omega)).mono ?_
  rintro e w4 ⟨rfl, hL⟩
  obtain ⟨h4, b4⟩ := laid_write h3 hL b3 (by omega)
  have c4 : w4.cell? ⟨w.heap.size, 3, none⟩ = some (.slice p 0 c) := by rw [Lib.cell_of_heap b4]; rfl
  clear h2 b2 h3 b3 hB3 hL c0 c3
  have H4 := Lib.hid h4
  clear h4
  go_wp2_with fail
  go_loopw [46] (fun i wr => i = .int .i64 0 ∧ w4 = wr) (fun i _ => 0)
  case atStart => exact ⟨rfl, rfl⟩
  case round =>
    obtain ⟨rfl, rfl⟩ := hrel
    go_wp2_with fail
    go_end0
    exact ⟨rfl, H4.out⟩

theorem lay_empty (B b : Nat) (n : Int) (s : ByteArray) (p : Option Addr) (c : Nat) (w : World) (h : Holds B b [] w)
    (hlen : (Wire.num 5).length + (Wire.num ([] : List It).length).length + (itemsBytes []).length ≤ 140737488355328) :
    Calls Tryz.prog 31 #[.pointer (some ⟨b, 0, none⟩), valV 5 n s (.slice p 0 c)] w fun e w' => e = .returned (.tuple #[]) ∧ Laid B b (Wire.num 5 ++ Wire.num ([] : List It).length ++ itemsBytes []) w w' := by
  have := lay_empty' B b [] n s p c w h (by simp only [List.length_nil] at hlen ⊢; simp only [itemsBytes, List.length_nil] at hlen; have e : ((0 : Nat) : Int) = 0 := rfl; rw [e] at hlen; omega)
  simpa [itemsBytes] using this
end Go.Proofs.YtmijlcilnaeppaaGreatDoor

/- All of the shelf's contracts that this claim uses lie in the text Shelf: this one adds none. -/

/- val.Encode. -/
set_option linter.unusedSimpArgs false
set_option linter.unusedVariables false
namespace Go.Proofs.YtmijlcilnaeppaaGreatDoor
open Go Go.RowKit Go.Shelf

/-- val.lay, of any right value that lies below the builder -/
theorem lay_V (d : Nat) (v : V) (x : It) (w0 : World) (hx : VAt d w0 v x) (hok : v.ok = true) (b : Nat) (w : World) (hw : Below w0.heap.size w0 w) (h : Holds w0.heap.size b [] w) :
    Calls Tryz.prog 31 #[.pointer (some ⟨b, 0, none⟩), x.v] w fun e w' => e = .returned (.tuple #[]) ∧ Laid w0.heap.size b v.bytes w w' := by
  obtain ⟨h1, h2, h3, h4, ys, h5, h6, h7, h8, h9, h10⟩ := items_of hx
  have hf := hx.top.1
  obtain ⟨k, n, s, p, m, c⟩ := x
  simp only at h1 h2 h3 h4 h6
  have hb : v.bytes.length ≤ 140737488355328 := by
    unfold V.bytes
    split
    · rename_i h5'
      obtain ⟨_, e2, e3⟩ := ok_list hok h5'
      have hfl : ∀ us : List V, (∀ u ∈ us, u.okIn = true) → (us.flatMap V.bytesIn).length ≤ us.length * 10020 := by
        intro us
        induction us with
        | nil => intro _; simp
        | cons u us ih =>
          intro hu
          have := ih (fun v hv => hu v (by simp [hv]))
          have hq := flatOk_parts (okIn_parts (hu u (by simp))).2
          have := flatBytes_len (k := u.k) (n := u.n) (s := u.s) ⟨by omega, by omega⟩ ⟨by omega, by omega⟩ (by omega)
          rw [List.flatMap_cons, List.length_append, List.length_cons]
          unfold V.bytesIn at *
          omega
      have := hfl v.l e3
      have n5 := Wire.num_len 5 ⟨by decide, by decide⟩
      have nl := Wire.num_len (v.l.length : Int) ⟨by omega, by omega⟩
      simp only [List.length_append]
      omega
    · rename_i h5'
      have hq := flatOk_parts (ok_flat hok h5')
      have := flatBytes_len (k := v.k) (n := v.n) (s := v.s) ⟨by omega, by omega⟩ ⟨by omega, by omega⟩ (by omega)
      unfold V.bytesIn
      omega
  by_cases hk : v.k = 5
  · obtain ⟨e1, e2, e3⟩ := ok_list hok hk
    have eb : v.bytes = Wire.num 5 ++ Wire.num v.l.length ++ v.l.flatMap V.bytesIn := by unfold V.bytes; rw [if_pos hk]
    rw [eb] at hb ⊢
    rw [hk] at h1
    rw [← h8, ← h5] at hb ⊢
    have hfl : ∀ y ∈ ys, y.flat := by
      intro y hy
      obtain ⟨u, hu, a1, a2, a3, a4, a5⟩ := h10 y hy
      have hq := okIn_parts (e3 u hu)
      have hq2 := flatOk_parts hq.2
      exact ⟨by rw [a1]; exact hq.1, by rw [a1]; omega, by rw [a2]; omega, by rw [a3]; omega⟩
    subst h1
    simp only [List.length_append] at hb
    rcases h6.2 with ⟨z, q, c', hv⟩ | ⟨g, off, c', hv, hlt, hc⟩
    · have hz : ys = [] := List.eq_nil_of_length_eq_zero z
      have hm : m = 0 := by injection hv
      subst hz hm
      exact lay_empty w0.heap.size b n s p c w h (by simpa using hb)
    · have hm : m = ys.length := by injection hv
      have hp : p = some ⟨g, off, none⟩ := by injection hv
      subst hm hp
      have := lay_list w0.heap.size b [] n s g off c ys hfl (by omega) w h hlt (fun i hi j u hu => by
        rw [hw.cell (p := ⟨g, off + i * 4 + j, none⟩) hlt, Nat.add_assoc]
        exact hc _ _ (itsCells_at ys i hi j u hu)) (by simp only [List.length_nil]; omega)
      simpa using this
  · have hq := flatOk_parts (ok_flat hok hk)
    have eb : v.bytes = flatBytes v.k v.n v.s := by unfold V.bytes; rw [if_neg hk]; rfl
    rw [eb] at hb ⊢
    rw [← h1, ← h2, ← h3] at hb hq ⊢
    have := lay_flat w0.heap.size b [] k n (by rw [h1]; exact hk) (by omega) (by omega) (by omega) (by omega) s (by omega) (.slice p m c) w h (by simpa using hb)
    simpa using this

/-- val.Encode, of any value that lies -/
def encPost (v : V) (w : World) (e : Ending) (w' : World) : Prop :=
  e = .returned (.tuple #[.string ⟨(if v.ok then v.bytes else []).toArray⟩, .int .i64 (if v.ok then 0 else 30)]) ∧ Below w.heap.size w w'

set_option maxHeartbeats 2000000 in
set_option maxRecDepth 100000 in
theorem encode_V (d : Nat) (v : V) (x : It) (w : World) (hx : VAt d w v x) (hT : Tabs w) :
    Calls Tryz.prog 7 #[x.v] w (encPost v w) := by
  have hr : ∀ W, Below w.heap.size w W → Calls Tryz.prog 11 #[x.v] W fun e w' => e = .returned (.bool v.ok) ∧ Below W.heap.size W w' := fun W hW => right_V d v x W (hx.below hW) (hT.below hW)
  have hl : v.ok = true → ∀ W0, Below w.heap.size w W0 → ∀ b W, Below W0.heap.size W0 W → Holds W0.heap.size b [] W → Calls Tryz.prog 31 #[.pointer (some ⟨b, 0, none⟩), x.v] W fun e w' => e = .returned (.tuple #[]) ∧ Laid W0.heap.size b v.bytes W w' := fun ho W0 h0 b W hW hH => lay_V d v x W0 (hx.below h0) ho b W hW hH
  have HR := Lib.hid hr
  have HL := Lib.hid hl
  clear hr hl hT hx
  obtain ⟨k, n, s, p, m, c⟩ := x
  unfold encPost
  generalize hb : v.ok = ok
  have HB := Lib.hid hb; clear hb
  go_enter Tryz.func7, Tryz.ntmps7
  go_wp2_with fail
  refine (HR.out _ ((Below.refl _ _).alloc (Nat.le_refl _) _)).mono ?_
  rintro e w1 ⟨rfl, hB1⟩
  rw [HB.out]
  have hBw1 : Below w.heap.size w w1 := ((Below.refl _ w).alloc (Nat.le_refl _) _).trans (hB1.mono (by simp))
  have b0 : w1.heap[w.heap.size]? = some (.cells #[.int .i64 k, .int .i64 n, .string s, .slice p m c] 30 (0, 0)) := (hB1.block _ (by simp)).trans (World.alloc_heap_new _ _)
  have hz1 : w.heap.size + 1 ≤ w1.heap.size := by have := hB1.size; simpa using this
  cases ok with
  | true =>
    have hH : Holds w1.heap.size w1.heap.size [] (w1.alloc (.cells #[.pointer none, .slice none 0 0] 56)) := Lib.IsBuilderF.of (Lib.fresh_isBuilder _ _ _)
    have hb2 : (w1.alloc (.cells #[.pointer none, .slice none 0 0] 56)).heap[w.heap.size]? = some (.cells #[.int .i64 k, .int .i64 n, .string s, .slice p m c] 30 (0, 0)) := (Lib.alloc_old w1 _ _ (by omega)).trans b0
    have hBw2 : Below w1.heap.size w1 (w1.alloc (.cells #[.pointer none, .slice none 0 0] 56)) := (Below.refl _ _).alloc (Nat.le_refl _) _
    have c0 : (w1.alloc (.cells #[.pointer none, .slice none 0 0] 56)).cell? ⟨w.heap.size, 0, none⟩ = some (.int .i64 k) := by rw [Lib.cell_of_heap hb2]; rfl
    have c1 : (w1.alloc (.cells #[.pointer none, .slice none 0 0] 56)).cell? ⟨w.heap.size, 1, none⟩ = some (.int .i64 n) := by rw [Lib.cell_of_heap hb2]; rfl
    have c2 : (w1.alloc (.cells #[.pointer none, .slice none 0 0] 56)).cell? ⟨w.heap.size, 2, none⟩ = some (.string s) := by rw [Lib.cell_of_heap hb2]; rfl
    have c3 : (w1.alloc (.cells #[.pointer none, .slice none 0 0] 56)).cell? ⟨w.heap.size, 3, none⟩ = some (.slice p m c) := by rw [Lib.cell_of_heap hb2]; rfl
    have HH := Lib.hid hH
    clear hH hb2 b0
    go_wp2_with fail
    refine (HL.out HB.out _ hBw1 _ _ hBw2 HH.out).mono ?_
    rintro e w3 ⟨rfl, hL⟩
    have HLA := Lib.hid hL
    clear hL
    go_wp2_with fail
    refine (Tryz.Builder_String_any_k _ _ v.bytes _ HLA.out.1 (Nat.le_trans hBw2.size HLA.out.2.1.size)).mono ?_
    rintro e w4 ⟨rfl, _, hB4, _⟩
    have hfin := hBw1.trans (((hBw2.trans HLA.out.2.1).trans hB4).mono hBw1.size)
    go_wp2_with fail
    go_ret2
    exact ⟨rfl, hfin⟩
  | false =>
    go_wp2_with fail
    go_ret2
    exact ⟨rfl, hBw1⟩
end Go.Proofs.YtmijlcilnaeppaaGreatDoor

/- words.Quote; val.written of what is no list. -/
set_option linter.unusedSimpArgs false
set_option linter.unusedVariables false
namespace Go.Proofs.YtmijlcilnaeppaaGreatDoor
open Go Go.RowKit Go.Shelf

theorem writeByte_laid (B b : Nat) (l : List UInt8) (c : UInt8) (w : World) (h : Holds B b l w) (hlen : l.length + 1 ≤ 140737488355328) :
    Calls Tryz.prog 82 #[.pointer (some ⟨b, 0, none⟩), .int .u8 (c.toNat : Int)] w fun e w' => e = .returned .nilIface ∧ Laid B b (l ++ [c]) w w' := by
  have hlt := holds_lt h
  refine (writeByte_k B b (Lib.byteCells l) (c.toNat : Int) w h (by rw [Lib.byteCells_length]; exact hlen) (by omega)).mono ?_
  rintro e w' ⟨rfl, h1, h2, h3⟩
  refine ⟨rfl, ?_, h2, h3⟩
  unfold Holds
  rw [Lib.byteCells_append]
  exact Or.inr (by simpa [Lib.byteCells] using h1)
theorem laid_trans {B b : Nat} {l t : List UInt8} {w w1 w2 : World} (h : Laid B b l w w1) (h' : Laid B b t w1 w2) : Laid B b t w w2 := ⟨h'.1, h.2.1.trans h'.2.1, h.2.2.trans h'.2.2⟩
theorem quoted_append (a b : List UInt8) : quoted (a ++ b) = quoted a ++ quoted b := by
  induction a with
  | nil => rfl
  | cons c a ih =>
    show quoted (c :: (a ++ b)) = _
    have e : ∀ r, quoted (c :: r) = if c = 34 ∨ c = 92 then 92 :: c :: quoted r else c :: quoted r := fun r => rfl
    show quoted (c :: (a ++ b)) = quoted (c :: a) ++ quoted b
    rw [e, e, ih]
    split <;> rfl
theorem quoted_len : ∀ t : List UInt8, (quoted t).length ≤ 2 * t.length
  | [] => Nat.le_refl _
  | c :: t => by
    have := quoted_len t
    unfold quoted
    split <;> simp <;> omega
theorem quoted_take (s : ByteArray) (k : Nat) (h : k < s.size) : quoted (s.data.toList.take (k + 1)) = quoted (s.data.toList.take k) ++ quoted [s[k]] := by
  have h' : k < s.data.toList.length := by simpa using h
  rw [List.take_succ_eq_append_getElem h', quoted_append]
  rfl

set_option maxHeartbeats 4000000 in
set_option maxRecDepth 100000 in
theorem quote_any (s : ByteArray) (hs : s.size ≤ 1000000) (w : World) :
    Calls Tryz.prog 64 #[.string s] w fun e w' => e = .returned (.string ⟨(34 :: (quoted s.data.toList ++ [34])).toArray⟩) ∧ Below w.heap.size w w' := by
  have h0 : Holds w.heap.size w.heap.size [] (w.alloc (.cells #[.pointer none, .slice none 0 0] 56)) := Lib.IsBuilderF.of (Lib.fresh_isBuilder _ _ _)
  have hw0 := writeByte_laid w.heap.size w.heap.size [] 34 _ h0 (by simp)
  have hB0 : Below w.heap.size w (w.alloc (.cells #[.pointer none, .slice none 0 0] 56)) := (Below.refl _ _).alloc (Nat.le_refl _) _
  have HB0 := Lib.hid hB0
  clear h0 hB0
  go_enter Tryz.func64, Tryz.ntmps64
  go_wp2_with fail
  refine hw0.mono ?_
  rintro e w1 ⟨rfl, hL⟩
  have HL := Lib.hid hL
  clear hL hw0
  go_wp2_with fail
  go_loopw [8] (fun i wr => ∃ k : Nat, k ≤ s.size ∧ i = .int .i64 (k : Int) ∧ Laid w.heap.size w.heap.size (34 :: quoted (s.data.toList.take k)) w1 wr) (fun i _ => s.size - (intOf i).toNat)
  case atStart => exact ⟨0, by omega, rfl, ⟨HL.out.1, Below.refl _ _, Lib.OthersKept.refl _ _ _⟩⟩
  case round =>
    obtain ⟨k, hk, rfl, hL⟩ := hrel
    have hql := quoted_len (s.data.toList.take k)
    rw [List.length_take] at hql
    by_cases hlt : k < s.size
    · have htk := quoted_take s k hlt
      have hsz : (s.data.toList.length) = s.size := by simp
      by_cases hq : (s[k].toNat : Int) = 34 ∨ (s[k].toNat : Int) = 92
      · have e2 : s[k] = 34 ∨ s[k] = 92 := hq.imp (fun k => UInt8.toNat_inj.1 (by have : (34 : UInt8).toNat = 34 := rfl; omega)) (fun k => UInt8.toNat_inj.1 (by have : (92 : UInt8).toNat = 92 := rfl; omega))
        have htk2 : quoted (s.data.toList.take (k + 1)) = quoted (s.data.toList.take k) ++ [92] ++ [s[k]] := by
          rw [htk]
          show _ ++ (if _ then _ else _) = _
          rw [if_pos e2]; simp [quoted]
        have HTK := Lib.hid htk2
        have hc1 := writeByte_laid w.heap.size w.heap.size _ 92 _ hL.1 (by simp; omega)
        have hc2 : ∀ w2, Laid w.heap.size w.heap.size (34 :: quoted (s.data.toList.take k) ++ [92]) w1 w2 → Calls Tryz.prog 82 #[.pointer (some ⟨w.heap.size, 0, none⟩), .int .u8 (s[k].toNat : Int)] w2 fun e w' => e = .returned .nilIface ∧ Laid w.heap.size w.heap.size (34 :: quoted (s.data.toList.take k) ++ [92] ++ [s[k]]) w2 w' := fun w2 h => writeByte_laid w.heap.size w.heap.size _ _ _ h.1 (by simp; omega)
        have HC2 := Lib.hid hc2
        have HLL := Lib.hid hL
        clear htk htk2 hc2 hL e2
        have hfin : ∀ w2 w3, Laid w.heap.size w.heap.size (34 :: quoted (s.data.toList.take k) ++ [92]) w1 w2 → Laid w.heap.size w.heap.size (34 :: quoted (s.data.toList.take k) ++ [92] ++ [s[k]]) w2 w3 → Laid w.heap.size w.heap.size (34 :: quoted (s.data.toList.take (k + 1))) w1 w3 := fun w2 w3 h h' => by
          have := laid_trans h h'
          rw [HTK.out]
          simpa using this
        have HF := Lib.hid hfin
        clear hfin hql hsz
        by_cases h34 : (s[k].toNat : Int) = 34
        · have d1 : ((s[k].toNat : Int) == 34) = true := by rw [beq_iff_eq]; exact h34
          clear hq h34
          go_wp2_with fail
          refine hc1.mono ?_
          rintro e w2 ⟨rfl, hL2⟩
          have HL2 := Lib.hid (laid_trans HLL.out hL2)
          clear hL2
          go_wp2_with fail
          refine (HC2.out _ HL2.out).mono ?_
          rintro e w3 ⟨rfl, hL3⟩
          have HL3 := Lib.hid hL3
          clear hL3
          go_wp2_with fail
          exact ⟨⟨k + 1, by omega, by go_num, HF.out _ _ HL2.out HL3.out⟩, by simp [intOf]; omega⟩
        · have d1 : ((s[k].toNat : Int) == 34) = false := by rw [beq_eq_false_iff_ne]; exact h34
          have d2 : ((s[k].toNat : Int) == 92) = true := by rw [beq_iff_eq]; exact hq.resolve_left h34
          clear hq h34
          go_wp2_with fail
          refine hc1.mono ?_
          rintro e w2 ⟨rfl, hL2⟩
          have HL2 := Lib.hid (laid_trans HLL.out hL2)
          clear hL2
          go_wp2_with fail
          refine (HC2.out _ HL2.out).mono ?_
          rintro e w3 ⟨rfl, hL3⟩
          have HL3 := Lib.hid hL3
          clear hL3
          go_wp2_with fail
          exact ⟨⟨k + 1, by omega, by go_num, HF.out _ _ HL2.out HL3.out⟩, by simp [intOf]; omega⟩
      · have d1 : ((s[k].toNat : Int) == 34) = false := by rw [beq_eq_false_iff_ne]; exact fun h => hq (.inl h)
        have d2 : ((s[k].toNat : Int) == 92) = false := by rw [beq_eq_false_iff_ne]; exact fun h => hq (.inr h)
        have htk2 : quoted (s.data.toList.take (k + 1)) = quoted (s.data.toList.take k) ++ [s[k]] := by
          rw [htk]
          show _ ++ (if _ then _ else _) = _
          rw [if_neg (by rintro (h | h) <;> rw [h] at hq <;> exact hq (by decide))]; simp [quoted]
        have HTK := Lib.hid htk2
        have hc1 := writeByte_laid w.heap.size w.heap.size _ s[k] _ hL.1 (by simp; omega)
        have HLL := Lib.hid hL
        clear htk htk2 hL hq hql hsz
        go_wp2_with fail
        refine hc1.mono ?_
        rintro e w2 ⟨rfl, hL2⟩
        have hL3 := laid_trans HLL.out hL2
        have hL4 : Laid w.heap.size w.heap.size (34 :: quoted (s.data.toList.take (k + 1))) w1 w2 := by rw [HTK.out]; simpa using hL3
        have HL2 := Lib.hid hL4
        clear hL2 hL3 hL4
        go_wp2_with fail
        exact ⟨⟨k + 1, by omega, by go_num, HL2.out⟩, by simp [intOf]; omega⟩
    · obtain rfl : k = s.size := by omega
      have ht : s.data.toList.take s.size = s.data.toList := List.take_of_length_le (by simp)
      rw [ht] at hL
      have hql2 := quoted_len s.data.toList
      have hsz : (s.data.toList.length) = s.size := by simp
      have hc1 := writeByte_laid w.heap.size w.heap.size _ 34 _ hL.1 (by simp; omega)
      have HLL := Lib.hid hL
      clear ht hL hql hql2 hsz
      go_wp2_with fail
      refine hc1.mono ?_
      rintro e w2 ⟨rfl, hL2⟩
      have hL3 := laid_trans HL.out (laid_trans HLL.out hL2)
      have HL3 := Lib.hid hL3
      have hz : w.heap.size ≤ w2.heap.size := by have := HB0.out.size; have := hL3.2.1.size; omega
      clear hL2 hL3
      go_wp2_with fail
      refine (Tryz.Builder_String_any_k _ _ (34 :: quoted s.data.toList ++ [34]) _ HL3.out.1 hz).mono ?_
      rintro e w4 ⟨rfl, _, hB4, _⟩
      have hfin := (HB0.out.trans HL3.out.2.1).trans hB4
      go_wp2_with fail
      go_ret
      exact ⟨rfl, hfin⟩
end Go.Proofs.YtmijlcilnaeppaaGreatDoor

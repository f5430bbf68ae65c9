/- Texts put together: ReadList, ReadTop. -/
import Derived.Deep.AppendLies
import Derived.OwnWalk
import Derived.RangeFuncRecord
import Derived.Test.YtmijlcilnaeppaaGreatDoorReadInZ
import Derived.Test.YtmijlcilnaeppaaGreatDoorBun9
/- val.readList. -/
set_option linter.unusedSimpArgs false
set_option linter.unusedVariables false
namespace Go.Proofs.YtmijlcilnaeppaaGreatDoor
open Go Go.RowKit Go.Shelf

def rlAt (s : ByteArray) (j : Nat) (acc : List V) : Option (List V × Nat) := (readItems (14 - acc.length) acc (s.data.toList.drop j)).map (fun x => (x.1, x.2 + j))
theorem rl_fuel {acc : List V} (h : acc.length ≤ 13) : ∃ n, 14 - acc.length = n + 1 := ⟨13 - acc.length, by omega⟩
theorem rlAt_end (s : ByteArray) (acc : List V) (h : acc.length ≤ 13) : rlAt s s.size acc = none := by
  obtain ⟨n, hn⟩ := rl_fuel h
  unfold rlAt
  rw [drop_end s s.size (Nat.le_refl _), hn]
  rfl
theorem rlAt_long (s : ByteArray) (j : Nat) (hj : j < s.size) (acc : List V) (h : acc.length ≤ 13) (hl : 12 < acc.length) : rlAt s j acc = none := by
  obtain ⟨n, hn⟩ := rl_fuel h
  unfold rlAt
  rw [dropAt s j hj, hn]
  unfold readItems
  rw [if_pos hl]; rfl
theorem rlAt_close (s : ByteArray) (j : Nat) (hj : j < s.size) (acc : List V) (h : acc.length ≤ 12) (hc : (s[j].toNat : Int) = 93) : rlAt s j acc = some (acc, 1 + j) := by
  obtain ⟨n, hn⟩ := rl_fuel (acc := acc) (by omega)
  have e : s[j] = 93 := UInt8.toNat_inj.1 (by have : (93 : UInt8).toNat = 93 := rfl; omega)
  unfold rlAt
  rw [dropAt s j hj, hn, e]
  unfold readItems
  show Option.map _ (if _ then _ else _) = _
  rw [if_neg (by omega), if_pos rfl]; rfl
theorem rlAt_first (s : ByteArray) (j : Nat) (hj : j < s.size) (hc : (s[j].toNat : Int) ≠ 93) : rlAt s j [] = match readIn (s.data.toList.drop j) with
    | none => none
    | some (u, k) => rlAt s (j + k) [u] := by
  have e : s[j] ≠ 93 := fun h => hc (by rw [h]; rfl)
  unfold rlAt
  rw [dropAt s j hj]
  show Option.map _ (readItems 14 [] _) = _
  conv => lhs; unfold readItems
  show Option.map _ (if _ then _ else _) = _
  rw [if_neg (by decide), if_neg e, if_pos rfl]
  cases readIn (s[j] :: s.data.toList.drop (j + 1)) with
  | none => rfl
  | some x =>
    obtain ⟨u, k⟩ := x
    simp only
    rw [Option.map_map, ← dropAt s j hj, List.drop_drop]
    show Option.map _ (readItems 13 [u] _) = Option.map _ (readItems 13 [u] _)
    congr 1
    funext x
    simp; omega
theorem rlAt_gap (s : ByteArray) (j : Nat) (hj : j < s.size) (acc : List V) (h0 : acc ≠ []) (h : acc.length ≤ 12) (hc : (s[j].toNat : Int) ≠ 93) (hs : (s[j].toNat : Int) ≠ 32) : rlAt s j acc = none := by
  obtain ⟨n, hn⟩ := rl_fuel (acc := acc) (by omega)
  have e : s[j] ≠ 93 := fun h => hc (by rw [h]; rfl)
  have e2 : s[j] ≠ 32 := fun h => hs (by rw [h]; rfl)
  unfold rlAt
  rw [dropAt s j hj, hn]
  unfold readItems
  show Option.map _ (if _ then _ else _) = _
  rw [if_neg (by omega), if_neg e, if_neg h0, if_neg e2]; rfl
theorem rlAt_more (s : ByteArray) (j : Nat) (hj : j < s.size) (acc : List V) (h0 : acc ≠ []) (h : acc.length ≤ 12) (hs : (s[j].toNat : Int) = 32) : rlAt s j acc = match readIn (s.data.toList.drop (j + 1)) with
    | none => none
    | some (u, k) => rlAt s (j + 1 + k) (acc ++ [u]) := by
  obtain ⟨n, hn⟩ := rl_fuel (acc := acc) (by omega)
  have e2 : s[j] = 32 := UInt8.toNat_inj.1 (by have : (32 : UInt8).toNat = 32 := rfl; omega)
  unfold rlAt
  rw [dropAt s j hj, hn]
  conv => lhs; unfold readItems
  show Option.map _ (if _ then _ else _) = _
  rw [if_neg (by omega), if_neg (by rw [e2]; decide), if_neg h0, if_pos e2]
  cases readIn (s.data.toList.drop (j + 1)) with
  | none => rfl
  | some x =>
    obtain ⟨u, k⟩ := x
    simp only
    rw [Option.map_map, List.drop_drop, List.length_append, List.length_singleton, show 14 - (acc.length + 1) = n from by omega]
    congr 1
    funext x
    simp; omega

def itOf (u : V) : It := ⟨u.k, u.n, u.s, none, 0, 0⟩
theorem itm_of {u : V} (h : u.flatOk = true) : Itm u (itOf u) := ⟨h, rfl, rfl, rfl, rfl⟩
theorem readIn_ok {l : List UInt8} {u : V} {k : Nat} (h : readIn l = some (u, k)) : u.flatOk = true := by
  unfold readIn at h
  repeat' split at h
  all_goals first
    | (cases h; assumption)
    | (cases h; rename_i h1; exact h1.2)
    | (cases h; rfl)
    | cases h

/-- what readList answers -/
def readListPost (r : Option (List V × Nat)) (W : World) (e : Ending) (W' : World) : Prop :=
  Below W.heap.size W W' ∧ match r with
    | none => e = .returned (.tuple #[valV 0 0 ⟨#[]⟩ (.slice none 0 0), .int .i64 0, .bool false])
    | some (us, k) => us.length ≤ 12 ∧ (∀ u ∈ us, u.flatOk = true) ∧ ∃ (p : Option Addr) (m c : Nat), e = .returned (.tuple #[valV 5 0 ⟨#[]⟩ (.slice p m c), .int .i64 (k : Int), .bool true]) ∧ VAt 1 W' (.mk 5 0 ⟨#[]⟩ us) ⟨5, 0, ⟨#[]⟩, p, m, c⟩ ∧ ∀ a, p = some a → W.heap.size ≤ a.block

def Boxes (W : World) (acc : List V) (v : Value) (wr : World) : Prop :=
  VBox wr W.heap.size 0 0 ⟨#[]⟩ (.slice none 0 0) ∧ VBox wr (W.heap.size + 1) 5 0 ⟨#[]⟩ v ∧ wr.ownsRow (W.heap.size + 2) 30 4 v acc.length (itsCells (acc.map itOf)) ∧ Below W.heap.size W wr
theorem Boxes.below {W : World} {acc : List V} {v : Value} {wr wr' : World} (h : Boxes W acc v wr) (hb : Below wr.heap.size wr wr') : Boxes W acc v wr' :=
  ⟨h.1.below hb, h.2.1.below hb, owned_below h.2.2.1 hb, h.2.2.2.trans (hb.mono h.2.2.2.size)⟩

theorem boxes_grown {W w1 w2 : World} {acc : List V} {v : Value} {o o' : Obj} (h : Boxes W acc v w1) (hg : ((w1.alloc o).alloc o').grownBy w2 v.ownBlock) (hb : ∀ g, v.ownBlock = some g → W.heap.size + 2 ≤ g) : VBox w2 W.heap.size 0 0 ⟨#[]⟩ (.slice none 0 0) ∧ VBox w2 (W.heap.size + 1) 5 0 ⟨#[]⟩ v ∧ Below W.heap.size W w2 := by
  obtain ⟨h1, h2, h3, h4⟩ := h
  have a1 := (h1.alloc o).alloc o'
  have a2 := (h2.alloc o).alloc o'
  refine ⟨(hg.block _ a1.lt (fun e => by have := hb _ e.symm; omega)).trans a1, (hg.block _ a2.lt (fun e => by have := hb _ e.symm; omega)).trans a2, ?_⟩
  exact ((h4.alloc h4.size o).alloc (by have := h4.size; simp; omega) o').grown hg (by have := h4.size; simp; omega) (fun g hg' => by have := hb g hg'; omega)
theorem boxes_next {W w2 : World} {acc : List V} {v v' : Value} {u : V} (h : VBox w2 W.heap.size 0 0 ⟨#[]⟩ (.slice none 0 0) ∧ VBox w2 (W.heap.size + 1) 5 0 ⟨#[]⟩ v ∧ Below W.heap.size W w2) (hown : w2.ownsRow (W.heap.size + 2) 30 4 v' (acc.length + 1) (itsCells (acc.map itOf) ++ [.int .i64 u.k, .int .i64 u.n, .string u.s, .slice none 0 0])) : Boxes W (acc ++ [u]) v' (w2.setCell ⟨W.heap.size + 1, 3, none⟩ v') := by
  refine ⟨h.1.past ⟨W.heap.size + 1, 3, none⟩ (by show W.heap.size ≠ W.heap.size + 1; omega) _, h.2.1.set3 v', ?_, h.2.2.setCell (p := ⟨W.heap.size + 1, 3, none⟩) (by show W.heap.size ≤ W.heap.size + 1; omega) _⟩
  have e : itsCells ((acc ++ [u]).map itOf) = itsCells (acc.map itOf) ++ [.int .i64 u.k, .int .i64 u.n, .string u.s, .slice none 0 0] := by
    rw [List.map_append, itsCells_append]; rfl
  rw [e, List.length_append, List.length_singleton]
  refine hown.kept (row := some (W.heap.size + 1)) ⟨rfl, rfl, rfl, by simp, fun k hk hne => Below.heap_setCell w2 ⟨W.heap.size + 1, 3, none⟩ v' k (fun e => hne (by rw [e]))⟩ ?_
  rcases hown.2 with ⟨rfl, _⟩ | ⟨g, cap, cur, rfl, hg, _⟩
  · exact .inl rfl
  · exact .inr (fun e => by have e2 : g = W.heap.size + 1 := Option.some.inj e; omega)
theorem numTxt_le (least most : Int) (l : List UInt8) : (numTxt least most l).2.1 ≤ l.length := by
  have h1 : ∀ (sg m : Int) (l : List UInt8), (numTail sg m l).2.1 ≤ l.length := by
    intro sg m l
    unfold numTail
    split
    · rename_i h
      cases l with
      | nil => cases h
      | cons c r => simp
    · have : ∀ (l : List UInt8) (n : Int), (digGo m n l).2 ≤ l.length := by
        intro l
        induction l with
        | nil => intro n; exact Nat.le_refl _
        | cons c r ih =>
          intro n
          unfold digGo
          split
          · have := ih (n * 10 + ((c.toNat : Int) - 48)); simp; omega
          · simp
      exact this l 0
  unfold numTxt
  split
  · rename_i h
    cases l with
    | nil => cases h
    | cons c r => have := h1 (-1) (-least) r; simp; omega
  · exact h1 _ _ _
theorem unq_le : ∀ (n : Nat) (l acc : List UInt8), l.length ≤ n → ∀ t k, unq acc l = some (t, k) → k ≤ l.length := by
  intro n
  induction n using Nat.strongRecOn with
  | _ n ih =>
    intro l acc hn t k h
    cases l with
    | nil => cases h
    | cons c r =>
      unfold unq at h
      split at h
      · cases h; simp
      · split at h
        · cases r with
          | nil => cases h
          | cons d r' =>
            simp only at h
            split at h
            · cases h2 : unq (acc ++ [d]) r' with
              | none => rw [h2] at h; cases h
              | some x =>
                rw [h2] at h; cases h
                have := ih r'.length (by simp at hn; omega) r' _ (Nat.le_refl _) x.1 x.2 h2
                simp; omega
            · cases h
        · cases h2 : unq (acc ++ [c]) r with
          | none => rw [h2] at h; cases h
          | some x =>
            rw [h2] at h; cases h
            have := ih r.length (by simp at hn; omega) r _ (Nat.le_refl _) x.1 x.2 h2
            simp; omega
theorem readIn_le {l : List UInt8} {u : V} {k : Nat} (h : readIn l = some (u, k)) : k ≤ l.length := by
  cases l with
  | nil => cases h
  | cons c r =>
    have n1 := numTxt_le (-20) 100000 r
    have n2 := numTxt_le (-1000000000000000) 1000000000000000 (c :: r)
    unfold readIn at h
    simp only at h
    split at h
    · cases h2 : unq [] r with
      | none => rw [h2] at h; cases h
      | some x =>
        rw [h2] at h
        simp only at h
        split at h
        · cases h
          have := unq_le _ r [] (Nat.le_refl _) x.1 x.2 h2
          simp; omega
        · cases h
    · split at h
      · split at h
        · cases h; simp; omega
        · cases h
      · split at h
        · split at h
          · cases h; simp; omega
          · cases h
        · split at h
          · split at h
            · cases h; exact n2
            · cases h
          · split at h
            · cases h; simp
            · cases h

set_option maxHeartbeats 4000000 in
set_option maxRecDepth 100000 in
theorem readList_no (s : ByteArray) (p : Nat) (h : ∀ hp : p < s.size, (s[p].toNat : Int) ≠ 91) (W : World) :
    Calls Tryz.prog 51 #[.string s, .int .i64 (p : Int)] W (readListPost none W) := by
  by_cases hp : p < s.size
  · have h1 := h hp
    have d0 : ((s[p].toNat : Int) != 91) = true := by rw [bne_iff_ne]; exact h1
    clear h h1
    go_enter Tryz.func51, Tryz.ntmps51
    go_wp2_with fail
    exact bodyPost_ret (v := .tuple #[valV 0 0 ⟨#[]⟩ (.slice none 0 0), .int .i64 0, .bool false]) (by simp [results, Tryz.results51, go_sem]) rfl ⟨below_two _ _, rfl⟩
  · clear h
    go_enter Tryz.func51, Tryz.ntmps51
    go_wp2_with fail
    exact bodyPost_ret (v := .tuple #[valV 0 0 ⟨#[]⟩ (.slice none 0 0), .int .i64 0, .bool false]) (by simp [results, Tryz.results51, go_sem]) rfl ⟨below_two _ _, rfl⟩

set_option maxHeartbeats 4000000 in
set_option maxRecDepth 100000 in
theorem readList_yes (s : ByteArray) (hs : s.size ≤ 140737488355327) (p : Nat) (hp : p < s.size) (h : (s[p].toNat : Int) = 91) (W : World) (hT : Tabs W) :
    Calls Tryz.prog 51 #[.string s, .int .i64 (p : Int)] W (readListPost (rlAt s (p + 1) []) W) := by
  obtain ⟨i0, hi, hz0, hz1, hz2'⟩ := info_parts infoVal
  have d0 : ((s[p].toNat : Int) != 91) = false := by rw [bne_eq_false_iff_eq]; exact h
  have d00 : decide (s.size ≤ p) = false := decide_eq_false (by omega)
  have d01 : decide ((s.size : Int) ≤ (p : Int)) = false := decide_eq_false (by omega)
  generalize hr : rlAt s (p + 1) [] = res
  have HR := Lib.hid hr
  have HT := Lib.hid hT
  have hV0 : VBox ((W.alloc (.cells #[.int .i64 0, .int .i64 0, .string ⟨#[]⟩, .slice none 0 0] 30)).alloc (.cells #[.int .i64 5, .int .i64 0, .string ⟨#[]⟩, .slice none 0 0] 30)) W.heap.size 0 0 ⟨#[]⟩ (.slice none 0 0) := (VBox.new W _ _ _ _).alloc _
  have hV1 : VBox ((W.alloc (.cells #[.int .i64 0, .int .i64 0, .string ⟨#[]⟩, .slice none 0 0] 30)).alloc (.cells #[.int .i64 5, .int .i64 0, .string ⟨#[]⟩, .slice none 0 0] 30)) (W.heap.size + 1) 5 0 ⟨#[]⟩ (.slice none 0 0) := by
    have := VBox.new (W.alloc (.cells #[.int .i64 0, .int .i64 0, .string ⟨#[]⟩, .slice none 0 0] 30)) 5 0 ⟨#[]⟩ (.slice none 0 0)
    rwa [show (W.alloc (.cells #[.int .i64 0, .int .i64 0, .string ⟨#[]⟩, .slice none 0 0] 30)).heap.size = W.heap.size + 1 from by simp] at this
  have hB0 : Boxes W [] (.slice none 0 0) ((W.alloc (.cells #[.int .i64 0, .int .i64 0, .string ⟨#[]⟩, .slice none 0 0] 30)).alloc (.cells #[.int .i64 5, .int .i64 0, .string ⟨#[]⟩, .slice none 0 0] 30)) := ⟨hV0, hV1, World.ownsRow_nil _ _ _ _, below_two _ _⟩
  clear h hr hT hV0 hV1
  go_enter Tryz.func51, Tryz.ntmps51
  go_wp2_with fail
  go_loopw [1] (fun i wr => ∃ (j : Nat) (acc : List V) (v : Value), j ≤ s.size ∧ i = .int .i64 (j : Int) ∧ acc.length ≤ 13 ∧ (∀ u ∈ acc, u.flatOk = true) ∧ rlAt s j acc = res ∧ Boxes W acc v wr) (fun _ wr => match wr.cell? ⟨W.heap.size + 1, 3, none⟩ with | some (.slice _ m _) => 14 - m | _ => 0)
  case atStart => exact ⟨p + 1, [], _, by omega, by go_num, by simp, by simp, HR.out, hB0⟩
  case round =>
    obtain ⟨j, acc, v, hj, rfl, hal, hflat, hrl, hbx⟩ := hrel
    have HRL := Lib.hid hrl
    have HFL := Lib.hid hflat
    have HBX := Lib.hid hbx
    have hown := hbx.2.2.1
    have hzw := hbx.2.1.lt
    obtain ⟨⟨c0, c1, c2, c3⟩, f0, f1, f2, f3⟩ := hbx.2.1.facts
    obtain ⟨⟨e0, e1, e2, e3⟩, g0, g1, g2, g3⟩ := hbx.1.facts
    obtain ⟨vp, vc, hv⟩ : ∃ vp vc, v = .slice vp acc.length vc := by
      rcases hown.2 with ⟨h, h'⟩ | ⟨g, cap, _, h, _⟩
      · exact ⟨none, 0, by rw [h, h']⟩
      · exact ⟨_, _, h⟩
    subst hv
    clear hrl hflat hbx d0
    by_cases hlt : j < s.size
    · by_cases hl12 : acc.length ≤ 12
      · by_cases h93 : (s[j].toNat : Int) = 93
        · have d1 : ((s[j].toNat : Int) == 93) = true := by rw [beq_iff_eq]; exact h93
          have hq := rlAt_close s j hlt acc hl12 h93
          rw [HRL.out] at hq
          have HQ := Lib.hid hq
          clear hq h93
          go_wp2_with fail
          have hV := HBX.out.1.put 5 0 ⟨#[]⟩ (.slice vp acc.length vc)
          have hB := below_put HBX.out.2.2.2 (b := W.heap.size) (Nat.le_refl _) 5 0 ⟨#[]⟩ (.slice vp acc.length vc)
          have hL : Lies wr (.slice vp acc.length vc) (acc.map itOf).length 4 (itsCells (acc.map itOf)) := by
            have := Lies.own hown
            rwa [List.length_map]
          have hne : ∀ a m' c', (Value.slice vp acc.length vc) = .slice (some a) m' c' → W.heap.size + 2 ≤ a.block := fun a m' c' ha => by
            injection ha with h1 _ _
            exact (hown.lt a.block (by rw [h1]; rfl)).1
          have hne2 : ∀ a m' c', (Value.slice vp acc.length vc) = .slice (some a) m' c' → a.block ≠ W.heap.size := fun a m' c' ha => by have := hne a m' c' ha; omega
          have hL9 := (((hL.past ⟨W.heap.size, 0, none⟩ hne2 (.int .i64 5)).past ⟨W.heap.size, 1, none⟩ hne2 (.int .i64 0)).past ⟨W.heap.size, 2, none⟩ hne2 (.string ⟨#[]⟩)).past ⟨W.heap.size, 3, none⟩ hne2 (.slice vp acc.length vc)
          unfold putBox at hV hB
          generalize (((wr.setCell ⟨W.heap.size, 0, none⟩ (.int .i64 5)).setCell ⟨W.heap.size, 1, none⟩ (.int .i64 0)).setCell ⟨W.heap.size, 2, none⟩ (.string ⟨#[]⟩)).setCell ⟨W.heap.size, 3, none⟩ (.slice vp acc.length vc) = W9 at hV hB hL9 ⊢
          obtain ⟨⟨x0, x1, x2, x3⟩, _⟩ := hV.facts
          have hat := vat_list hl12 (by simp) hL9 (fun i h h' => by rw [List.getElem_map]; exact itm_of (HFL.out _ (List.getElem_mem _)))
          exact bodyPost_ret (v := .tuple #[valV 5 0 ⟨#[]⟩ (.slice vp acc.length vc), .int .i64 ((j : Int) + 1), .bool true]) (by simp [results, Tryz.results51, go_sem, x0, x1, x2, x3]) rfl ⟨hB, by rw [HQ.out]; exact ⟨hl12, HFL.out, vp, acc.length, vc, by rw [show ((1 + j : Nat) : Int) = (j : Int) + 1 from by omega], hat, fun a ha => by have := hne a _ _ (by rw [ha]); omega⟩⟩
        · have d1 : ((s[j].toNat : Int) == 93) = false := by rw [beq_eq_false_iff_ne]; exact h93
          by_cases hnil : acc = []
          · have hq := hnil ▸ rlAt_first s j hlt h93
            have hq : rlAt s j acc = match readIn (s.data.toList.drop j) with
                | none => none
                | some (u, k) => rlAt s (j + k) (acc ++ [u]) := by rw [hnil]; exact rlAt_first s j hlt h93
            have hl0 : ¬ 0 < acc.length := by rw [hnil]; simp
            rw [HRL.out] at hq
            clear hnil h93
            have hrd := fun w hw => read_any s hs (j) w hw
            have HRD := Lib.hid hrd
            cases hri : readIn (s.data.toList.drop (j)) with
            | none =>
              rw [hri] at hq
              have HQ := Lib.hid hq
              have HRI := Lib.hid hri
              clear hq hri hrd
              go_wp2_with fail
              refine (HRD.out _ (HT.out.below HBX.out.2.2.2)).mono ?_
              rintro e W2 ⟨hB2, hm⟩
              rw [HRI.out] at hm
              obtain rfl := hm
              have hbx2 := HBX.out.below hB2
              clear c0 c1 c2 c3 f0 f1 f2 f3 e0 e1 e2 e3 g0 g1 g2 g3
              obtain ⟨⟨c0, c1, c2, c3⟩, f0, f1, f2, f3⟩ := hbx2.2.1.facts
              obtain ⟨⟨e0, e1, e2, e3⟩, g0, g1, g2, g3⟩ := hbx2.1.facts
              have hz2 := hbx2.2.1.lt
              have hz3 := hbx2.1.lt
              have HBX2 := Lib.hid hbx2
              clear hbx2 hB2
              go_wp2_with fail
              have hV := (HBX2.out.1.put 0 0 ⟨#[]⟩ (.slice none 0 0)).alloc (.cells #[.int .i64 0, .int .i64 0, .string ⟨#[]⟩, .slice none 0 0] 30)
              have hB := (below_put HBX2.out.2.2.2 (b := W.heap.size) (Nat.le_refl _) 0 0 ⟨#[]⟩ (.slice none 0 0)).alloc (by simp [putBox]; omega) (.cells #[.int .i64 0, .int .i64 0, .string ⟨#[]⟩, .slice none 0 0] 30)
              unfold putBox at hV hB
              generalize ((((W2.setCell ⟨W.heap.size, 0, none⟩ (.int .i64 0)).setCell ⟨W.heap.size, 1, none⟩ (.int .i64 0)).setCell ⟨W.heap.size, 2, none⟩ (.string ⟨#[]⟩)).setCell ⟨W.heap.size, 3, none⟩ (.slice none 0 0)).alloc (.cells #[.int .i64 0, .int .i64 0, .string ⟨#[]⟩, .slice none 0 0] 30) = W9 at hV hB ⊢
              obtain ⟨⟨x0, x1, x2, x3⟩, _⟩ := hV.facts
              exact bodyPost_ret (v := .tuple #[valV 0 0 ⟨#[]⟩ (.slice none 0 0), .int .i64 0, .bool false]) (by simp [results, Tryz.results51, go_sem, x0, x1, x2, x3]) rfl ⟨hB, by rw [HQ.out]⟩
            | some x =>
              obtain ⟨u, k⟩ := x
              rw [hri] at hq
              have hfu := readIn_ok hri
              have HQ := Lib.hid hq
              have HRI := Lib.hid hri
              have HFU := Lib.hid hfu
              have hpk := readIn_le hri
              have hdl : (s.data.toList.drop (j)).length = s.size - (j) := by simp
              rw [hdl] at hpk
              clear hq hri hrd hfu hdl
              go_wp2_with fail
              refine (HRD.out _ (HT.out.below HBX.out.2.2.2)).mono ?_
              rintro e W2 ⟨hB2, hm⟩
              rw [HRI.out] at hm
              obtain rfl := hm
              have hbx2 := HBX.out.below hB2
              clear c0 c1 c2 c3 f0 f1 f2 f3 e0 e1 e2 e3 g0 g1 g2 g3 hown
              have hown2 := hbx2.2.2.1
              obtain ⟨⟨c0, c1, c2, c3⟩, f0, f1, f2, f3⟩ := hbx2.2.1.facts
              have hz2 := hbx2.2.1.lt
              have hz3 := hbx2.1.lt
              have HBX2 := Lib.hid hbx2
              clear hbx2 hB2
              obtain ⟨uk, un, us, ul⟩ := u
              simp only [V.k, V.n, V.s] at *
              go_wp2_with (at_builtin; refine wpList_append_lies _ rfl _ _ _ rfl (W.heap.size + 2) 30 i0 _ 4 56 Tryz.underlying28 hi hz0 hz1 hz2' rfl (by omega) _ acc.length _ rfl ((hown2.alloc _).alloc _) ⟨W2.heap.size + 1, 0, none⟩ 1 1 [.int .i64 uk, .int .i64 un, .string us, .slice none 0 0] rfl rfl (World.news_of_block (cs := #[.int .i64 uk, .int .i64 un, .string us, .slice none 0 0]) (t := 30) (fr := (0, 0)) (by have h := World.alloc_heap_new (W2.alloc (.cells #[.int .i64 uk, .int .i64 un, .string us, .slice none 0 0] 30)) (.cells #[.int .i64 uk, .int .i64 un, .string us, .slice none 0 0] 30); rw [World.size_alloc] at h; exact h)) (by simp [Value.oneCell']) (by omega) (by simp [maxLen]; omega) (by omega) (by simp; omega) (W2.heap.size + 2) (by simp) ?_; intro gg cap w2 hown1 hgrow hat hlt2; have hgo := fun g (hg : Value.ownBlock (.slice vp acc.length vc) = some g) => (hown2.lt g hg).1; have hV2 := boxes_grown HBX2.out hgrow hgo; obtain ⟨⟨y0, y1, y2, y3⟩, z0, z1, z2, z3⟩ := hV2.2.1.facts)
              have hfinal : Boxes W (acc ++ [.mk uk un us ul]) (.slice (some ⟨gg, 0, none⟩) (acc.length + 1) cap) (w2.setCell ⟨W.heap.size + 1, 3, none⟩ (.slice (some ⟨gg, 0, none⟩) (acc.length + 1) cap)) := boxes_next hV2 hown1
              refine ⟨⟨j + k, acc ++ [.mk uk un us ul], _, by omega, by go_num, by simp; omega, ?_, HQ.out.symm, hfinal⟩, ?_⟩
              · intro v hv
                rcases List.mem_append.1 hv with h | h
                · exact HFL.out v h
                · rw [List.mem_singleton.1 h]; exact HFU.out
              · have q3 := hfinal.2.1.facts.1.2.2.2
                have q4 := HBX.out.2.1.facts.1.2.2.2
                rw [q3, q4]
                simp only
                omega
          · have hl0 : 0 < acc.length := List.length_pos_iff.2 hnil
            by_cases h32 : (s[j].toNat : Int) = 32
            · have d2 : ((s[j].toNat : Int) != 32) = false := by rw [bne_eq_false_iff_eq]; exact h32
              have hq := rlAt_more s j hlt acc hnil hl12 h32
              rw [HRL.out] at hq
              clear hnil h93 h32
              have hrd := fun w hw => read_any s hs (j + 1) w hw
              have HRD := Lib.hid hrd
              cases hri : readIn (s.data.toList.drop (j + 1)) with
              | none =>
                rw [hri] at hq
                have HQ := Lib.hid hq
                have HRI := Lib.hid hri
                clear hq hri hrd
                go_wp2_with fail
                refine (HRD.out _ (HT.out.below HBX.out.2.2.2)).mono ?_
                rintro e W2 ⟨hB2, hm⟩
                rw [HRI.out] at hm
                obtain rfl := hm
                have hbx2 := HBX.out.below hB2
                clear c0 c1 c2 c3 f0 f1 f2 f3 e0 e1 e2 e3 g0 g1 g2 g3
                obtain ⟨⟨c0, c1, c2, c3⟩, f0, f1, f2, f3⟩ := hbx2.2.1.facts
                obtain ⟨⟨e0, e1, e2, e3⟩, g0, g1, g2, g3⟩ := hbx2.1.facts
                have hz2 := hbx2.2.1.lt
                have hz3 := hbx2.1.lt
                have HBX2 := Lib.hid hbx2
                clear hbx2 hB2
                go_wp2_with fail
                have hV := (HBX2.out.1.put 0 0 ⟨#[]⟩ (.slice none 0 0)).alloc (.cells #[.int .i64 0, .int .i64 0, .string ⟨#[]⟩, .slice none 0 0] 30)
                have hB := (below_put HBX2.out.2.2.2 (b := W.heap.size) (Nat.le_refl _) 0 0 ⟨#[]⟩ (.slice none 0 0)).alloc (by simp [putBox]; omega) (.cells #[.int .i64 0, .int .i64 0, .string ⟨#[]⟩, .slice none 0 0] 30)
                unfold putBox at hV hB
                generalize ((((W2.setCell ⟨W.heap.size, 0, none⟩ (.int .i64 0)).setCell ⟨W.heap.size, 1, none⟩ (.int .i64 0)).setCell ⟨W.heap.size, 2, none⟩ (.string ⟨#[]⟩)).setCell ⟨W.heap.size, 3, none⟩ (.slice none 0 0)).alloc (.cells #[.int .i64 0, .int .i64 0, .string ⟨#[]⟩, .slice none 0 0] 30) = W9 at hV hB ⊢
                obtain ⟨⟨x0, x1, x2, x3⟩, _⟩ := hV.facts
                exact bodyPost_ret (v := .tuple #[valV 0 0 ⟨#[]⟩ (.slice none 0 0), .int .i64 0, .bool false]) (by simp [results, Tryz.results51, go_sem, x0, x1, x2, x3]) rfl ⟨hB, by rw [HQ.out]⟩
              | some x =>
                obtain ⟨u, k⟩ := x
                rw [hri] at hq
                have hfu := readIn_ok hri
                have HQ := Lib.hid hq
                have HRI := Lib.hid hri
                have HFU := Lib.hid hfu
                have hpk := readIn_le hri
                have hdl : (s.data.toList.drop (j + 1)).length = s.size - (j + 1) := by simp
                rw [hdl] at hpk
                clear hq hri hrd hfu hdl
                go_wp2_with fail
                refine (HRD.out _ (HT.out.below HBX.out.2.2.2)).mono ?_
                rintro e W2 ⟨hB2, hm⟩
                rw [HRI.out] at hm
                obtain rfl := hm
                have hbx2 := HBX.out.below hB2
                clear c0 c1 c2 c3 f0 f1 f2 f3 e0 e1 e2 e3 g0 g1 g2 g3 hown
                have hown2 := hbx2.2.2.1
                obtain ⟨⟨c0, c1, c2, c3⟩, f0, f1, f2, f3⟩ := hbx2.2.1.facts
                have hz2 := hbx2.2.1.lt
                have hz3 := hbx2.1.lt
                have HBX2 := Lib.hid hbx2
                clear hbx2 hB2
                obtain ⟨uk, un, us, ul⟩ := u
                simp only [V.k, V.n, V.s] at *
                go_wp2_with (at_builtin; refine wpList_append_lies _ rfl _ _ _ rfl (W.heap.size + 2) 30 i0 _ 4 56 Tryz.underlying28 hi hz0 hz1 hz2' rfl (by omega) _ acc.length _ rfl ((hown2.alloc _).alloc _) ⟨W2.heap.size + 1, 0, none⟩ 1 1 [.int .i64 uk, .int .i64 un, .string us, .slice none 0 0] rfl rfl (World.news_of_block (cs := #[.int .i64 uk, .int .i64 un, .string us, .slice none 0 0]) (t := 30) (fr := (0, 0)) (by have h := World.alloc_heap_new (W2.alloc (.cells #[.int .i64 uk, .int .i64 un, .string us, .slice none 0 0] 30)) (.cells #[.int .i64 uk, .int .i64 un, .string us, .slice none 0 0] 30); rw [World.size_alloc] at h; exact h)) (by simp [Value.oneCell']) (by omega) (by simp [maxLen]; omega) (by omega) (by simp; omega) (W2.heap.size + 2) (by simp) ?_; intro gg cap w2 hown1 hgrow hat hlt2; have hgo := fun g (hg : Value.ownBlock (.slice vp acc.length vc) = some g) => (hown2.lt g hg).1; have hV2 := boxes_grown HBX2.out hgrow hgo; obtain ⟨⟨y0, y1, y2, y3⟩, z0, z1, z2, z3⟩ := hV2.2.1.facts)
                have hfinal : Boxes W (acc ++ [.mk uk un us ul]) (.slice (some ⟨gg, 0, none⟩) (acc.length + 1) cap) (w2.setCell ⟨W.heap.size + 1, 3, none⟩ (.slice (some ⟨gg, 0, none⟩) (acc.length + 1) cap)) := boxes_next hV2 hown1
                refine ⟨⟨j + 1 + k, acc ++ [.mk uk un us ul], _, by omega, by go_num, by simp; omega, ?_, HQ.out.symm, hfinal⟩, ?_⟩
                · intro v hv
                  rcases List.mem_append.1 hv with h | h
                  · exact HFL.out v h
                  · rw [List.mem_singleton.1 h]; exact HFU.out
                · have q3 := hfinal.2.1.facts.1.2.2.2
                  have q4 := HBX.out.2.1.facts.1.2.2.2
                  rw [q3, q4]
                  simp only
                  omega
            · have d2 : ((s[j].toNat : Int) != 32) = true := by rw [bne_iff_ne]; exact h32
              have hq := rlAt_gap s j hlt acc hnil hl12 h93 h32
              rw [HRL.out] at hq
              have HQ := Lib.hid hq
              clear hq h93 h32 hnil
              go_wp2_with fail
              have hV := HBX.out.1.put 0 0 ⟨#[]⟩ (.slice none 0 0)
              have hB := below_put HBX.out.2.2.2 (b := W.heap.size) (Nat.le_refl _) 0 0 ⟨#[]⟩ (.slice none 0 0)
              unfold putBox at hV hB
              generalize (((wr.setCell ⟨W.heap.size, 0, none⟩ (.int .i64 0)).setCell ⟨W.heap.size, 1, none⟩ (.int .i64 0)).setCell ⟨W.heap.size, 2, none⟩ (.string ⟨#[]⟩)).setCell ⟨W.heap.size, 3, none⟩ (.slice none 0 0) = W9 at hV hB ⊢
              obtain ⟨⟨x0, x1, x2, x3⟩, _⟩ := hV.facts
              exact bodyPost_ret (v := .tuple #[valV 0 0 ⟨#[]⟩ (.slice none 0 0), .int .i64 0, .bool false]) (by simp [results, Tryz.results51, go_sem, x0, x1, x2, x3]) rfl ⟨hB, by rw [HQ.out]⟩
      · have hq := rlAt_long s j hlt acc hal (by omega)
        rw [HRL.out] at hq
        have HQ := Lib.hid hq
        clear hq
        go_wp2_with fail
        have hV := HBX.out.1.put 0 0 ⟨#[]⟩ (.slice none 0 0)
        have hB := below_put HBX.out.2.2.2 (b := W.heap.size) (Nat.le_refl _) 0 0 ⟨#[]⟩ (.slice none 0 0)
        unfold putBox at hV hB
        generalize (((wr.setCell ⟨W.heap.size, 0, none⟩ (.int .i64 0)).setCell ⟨W.heap.size, 1, none⟩ (.int .i64 0)).setCell ⟨W.heap.size, 2, none⟩ (.string ⟨#[]⟩)).setCell ⟨W.heap.size, 3, none⟩ (.slice none 0 0) = W9 at hV hB ⊢
        obtain ⟨⟨x0, x1, x2, x3⟩, _⟩ := hV.facts
        exact bodyPost_ret (v := .tuple #[valV 0 0 ⟨#[]⟩ (.slice none 0 0), .int .i64 0, .bool false]) (by simp [results, Tryz.results51, go_sem, x0, x1, x2, x3]) rfl ⟨hB, by rw [HQ.out]⟩
    · obtain rfl : j = s.size := by omega
      have hq := rlAt_end s acc hal
      rw [HRL.out] at hq
      have HQ := Lib.hid hq
      clear hq
      go_wp2_with fail
      have hV := HBX.out.1.put 0 0 ⟨#[]⟩ (.slice none 0 0)
      have hB := below_put HBX.out.2.2.2 (b := W.heap.size) (Nat.le_refl _) 0 0 ⟨#[]⟩ (.slice none 0 0)
      unfold putBox at hV hB
      generalize (((wr.setCell ⟨W.heap.size, 0, none⟩ (.int .i64 0)).setCell ⟨W.heap.size, 1, none⟩ (.int .i64 0)).setCell ⟨W.heap.size, 2, none⟩ (.string ⟨#[]⟩)).setCell ⟨W.heap.size, 3, none⟩ (.slice none 0 0) = W9 at hV hB ⊢
      obtain ⟨⟨x0, x1, x2, x3⟩, _⟩ := hV.facts
      exact bodyPost_ret (v := .tuple #[valV 0 0 ⟨#[]⟩ (.slice none 0 0), .int .i64 0, .bool false]) (by simp [results, Tryz.results51, go_sem, x0, x1, x2, x3]) rfl ⟨hB, by rw [HQ.out]⟩

theorem readList_any (s : ByteArray) (hs : s.size ≤ 140737488355327) (p : Nat) (W : World) (hT : Tabs W) :
    Calls Tryz.prog 51 #[.string s, .int .i64 (p : Int)] W (readListPost (if (s.data.toList.drop p).head? = some 91 then rlAt s (p + 1) [] else none) W) := by
  by_cases hp : p < s.size
  · by_cases h : (s[p].toNat : Int) = 91
    · rw [if_pos ((head_at s p hp 91).2 h)]
      exact readList_yes s hs p hp h W hT
    · rw [if_neg (fun k => h ((head_at s p hp 91).1 k))]
      exact readList_no s p (fun _ => h) W
  · rw [if_neg (by rw [drop_end s p (by omega)]; simp)]
    exact readList_no s p (fun k => absurd k hp) W
end Go.Proofs.YtmijlcilnaeppaaGreatDoor

/- val.Read. -/
set_option linter.unusedSimpArgs false
set_option linter.unusedVariables false
namespace Go.Proofs.YtmijlcilnaeppaaGreatDoor
open Go Go.RowKit Go.Shelf

/-- what Read answers -/
def readTopPost (s : ByteArray) (p : Int) (W : World) (e : Ending) (W' : World) : Prop :=
  Below W.heap.size W W' ∧ if p < 0 ∨ (s.size : Int) < p then e = .returned (.tuple #[valV 0 0 ⟨#[]⟩ (.slice none 0 0), .int .i64 p, .int .i64 2]) else
    match readV (s.data.toList.drop p.toNat) with
    | none => e = .returned (.tuple #[valV 0 0 ⟨#[]⟩ (.slice none 0 0), .int .i64 p, .int .i64 30])
    | some (u, n) => ∃ x : It, e = .returned (.tuple #[x.v, .int .i64 (p + n), .int .i64 0]) ∧ VAt 1 W' u x

set_option maxHeartbeats 4000000 in
set_option maxRecDepth 100000 in
theorem readTop_out (s : ByteArray) (p : Int) (hp : p < 0 ∨ (s.size : Int) < p) (W : World) :
    Calls Tryz.prog 27 #[.string s, .int .i64 p] W (readTopPost s p W) := by
  have hfin : ∀ e W', (Below W.heap.size W W' ∧ e = .returned (.tuple #[valV 0 0 ⟨#[]⟩ (.slice none 0 0), .int .i64 p, .int .i64 2])) → readTopPost s p W e W' := fun e W' h => ⟨h.1, by rw [if_pos hp]; exact h.2⟩
  refine Calls.mono (R := fun e W' => Below W.heap.size W W' ∧ e = .returned (.tuple #[valV 0 0 ⟨#[]⟩ (.slice none 0 0), .int .i64 p, .int .i64 2])) ?_ hfin
  clear hfin
  by_cases h0 : p < 0
  · clear hp
    go_enter Tryz.func27, Tryz.ntmps27
    go_wp2_with fail
    exact bodyPost_ret (v := .tuple #[valV 0 0 ⟨#[]⟩ (.slice none 0 0), .int .i64 p, .int .i64 2]) (by simp [results, Tryz.results27, go_sem]) rfl ⟨(Below.refl _ _).alloc (Nat.le_refl _) _, rfl⟩
  · have h1 : (s.size : Int) < p := hp.resolve_left h0
    clear hp
    go_enter Tryz.func27, Tryz.ntmps27
    go_wp2_with fail
    exact bodyPost_ret (v := .tuple #[valV 0 0 ⟨#[]⟩ (.slice none 0 0), .int .i64 p, .int .i64 2]) (by simp [results, Tryz.results27, go_sem]) rfl ⟨(Below.refl _ _).alloc (Nat.le_refl _) _, rfl⟩

/-- the value whose cells stand in a box that is written -/
theorem vat_put {W : World} {u : V} {x : It} (h : VAt 1 W u x) (hok : u.flatOk = true ∨ (∃ us : List V, u = .mk 5 0 ⟨#[]⟩ us ∧ ∀ v ∈ us, v.flatOk = true)) (b : Nat) (hb : ∀ a, x.p = some a → a.block ≠ b) (k n : Int) (t : ByteArray) (l : Value) : VAt 1 (putBox W b k n t l) u x := by
  rcases hok with h' | ⟨us, rfl, hus⟩
  · exact (Itm.of h h').at _ _
  · obtain ⟨h0, h1, h2, h3, ys, h4, h5, h6⟩ := h
    have hne : ∀ a m' c', (Value.slice x.p x.m x.c) = .slice (some a) m' c' → a.block ≠ b := fun a m' c' ha => by injection ha with h1 _ _; exact hb a h1
    refine ⟨h0, h1, h2, h3, ys, h4, (((h5.past ⟨b, 0, none⟩ hne (.int .i64 k)).past ⟨b, 1, none⟩ hne (.int .i64 n)).past ⟨b, 2, none⟩ hne (.string t)).past ⟨b, 3, none⟩ hne l, fun i a b => ?_⟩
    exact (Itm.of (d := 0) (h6 i a b) (hus _ (List.getElem_mem _))).at 0 _

set_option maxHeartbeats 4000000 in
set_option maxRecDepth 100000 in
theorem readTop_in (s : ByteArray) (hs : s.size ≤ 140737488355327) (p : Nat) (hp : p ≤ s.size) (W : World) (hT : Tabs W) :
    Calls Tryz.prog 27 #[.string s, .int .i64 (p : Int)] W (readTopPost s p W) := by
  have hfin : ∀ e W', (Below W.heap.size W W' ∧ match readV (s.data.toList.drop p) with
    | none => e = .returned (.tuple #[valV 0 0 ⟨#[]⟩ (.slice none 0 0), .int .i64 (p : Int), .int .i64 30])
    | some (u, n) => ∃ x : It, e = .returned (.tuple #[x.v, .int .i64 ((p : Int) + n), .int .i64 0]) ∧ VAt 1 W' u x) → readTopPost s p W e W' := fun e W' h => ⟨h.1, by rw [if_neg (by omega), Int.toNat_natCast]; exact h.2⟩
  refine Calls.mono ?_ hfin
  clear hfin
  have hB0 : Below W.heap.size W (W.alloc (.cells #[.int .i64 0, .int .i64 0, .string ⟨#[]⟩, .slice none 0 0] 30)) := (Below.refl _ _).alloc (Nat.le_refl _) _
  have hV0 := VBox.new W 0 0 ⟨#[]⟩ (.slice none 0 0)
  have hrd := read_any s hs p _ (hT.below hB0)
  have hli := readList_any s hs p
  cases hri : readIn (s.data.toList.drop p) with
  | some x =>
    obtain ⟨u, k⟩ := x
    have hv : readV (s.data.toList.drop p) = some (u, k) := by unfold readV; rw [hri]
    rw [hv]
    rw [hri] at hrd
    have hfu := readIn_ok hri
    have HFU := Lib.hid hfu
    have HB0 := Lib.hid hB0
    have HV0 := Lib.hid hV0
    clear hv hri hfu hli hB0 hV0
    obtain ⟨uk, un, us, ul⟩ := u
    go_enter Tryz.func27, Tryz.ntmps27
    go_wp2_with fail
    refine hrd.mono ?_
    rintro e W1 ⟨hB1, rfl⟩
    have hV1 := HV0.out.below hB1
    have hBW := HB0.out.trans (hB1.mono (by simp))
    have hz := hV1.lt
    obtain ⟨⟨c0, c1, c2, c3⟩, f0, f1, f2, f3⟩ := hV1.facts
    have HV1 := Lib.hid hV1
    have HBW := Lib.hid hBW
    simp only [V.k, V.n, V.s]
    clear hB1 hV1 hBW hrd
    go_wp2_with fail
    have hV := (HV1.out.put uk un us (.slice none 0 0)).alloc (.cells #[.int .i64 uk, .int .i64 un, .string us, .slice none 0 0] 30)
    have hB := (below_put HBW.out (b := W.heap.size) (Nat.le_refl _) uk un us (.slice none 0 0)).alloc (by simp [putBox]; omega) (.cells #[.int .i64 uk, .int .i64 un, .string us, .slice none 0 0] 30)
    unfold putBox at hV hB
    generalize ((((W1.setCell ⟨W.heap.size, 0, none⟩ (.int .i64 uk)).setCell ⟨W.heap.size, 1, none⟩ (.int .i64 un)).setCell ⟨W.heap.size, 2, none⟩ (.string us)).setCell ⟨W.heap.size, 3, none⟩ (.slice none 0 0)).alloc (.cells #[.int .i64 uk, .int .i64 un, .string us, .slice none 0 0] 30) = W9 at hV hB ⊢
    obtain ⟨⟨x0, x1, x2, x3⟩, _⟩ := hV.facts
    exact bodyPost_ret (v := .tuple #[valV uk un us (.slice none 0 0), .int .i64 ((p : Int) + k), .int .i64 0]) (by simp [results, Tryz.results27, go_sem, x0, x1, x2, x3]) rfl ⟨hB, ⟨uk, un, us, none, 0, 0⟩, rfl, (itm_of HFU.out).at 1 _⟩
  | none =>
    rw [hri] at hrd
    have hv : readV (s.data.toList.drop p) = if (s.data.toList.drop p).head? = some 91 then (readItems 14 [] (s.data.toList.drop p).tail).map (fun x => (V.mk 5 0 ⟨#[]⟩ x.1, x.2 + 1)) else none := by unfold readV; rw [hri]
    generalize hrl : (if (s.data.toList.drop p).head? = some 91 then rlAt s (p + 1) [] else none) = rl at hli
    have hv2 : readV (s.data.toList.drop p) = rl.map (fun x => (V.mk 5 0 ⟨#[]⟩ x.1, x.2 - p)) := by
      rw [hv, ← hrl]
      split
      · rename_i h
        have hpl : p < s.size := by
          rcases Nat.lt_or_ge p s.size with h' | h'
          · exact h'
          · rw [drop_end s p h'] at h; cases h
        unfold rlAt
        rw [dropAt s p hpl, List.tail_cons, Option.map_map]
        show Option.map _ (readItems 14 [] _) = Option.map _ (readItems 14 [] _)
        congr 1
        funext x
        simp; omega
      · rfl
    have hge : ∀ us k, rl = some (us, k) → p ≤ k := by
      intro us k h
      rw [h] at hrl
      split at hrl
      · unfold rlAt at hrl
        cases h2 : readItems (14 - ([] : List V).length) [] (s.data.toList.drop (p + 1)) with
        | none => rw [h2] at hrl; cases hrl
        | some x => rw [h2] at hrl; cases hrl; omega
      · cases hrl
    rw [hv2]
    have HLI := Lib.hid hli
    have HT := Lib.hid hT
    have HB0 := Lib.hid hB0
    have HV0 := Lib.hid hV0
    have HGE := Lib.hid hge
    clear hv hv2 hri hli hB0 hV0 hrl hT hge
    cases rl with
    | none =>
      go_enter Tryz.func27, Tryz.ntmps27
      go_wp2_with fail
      refine hrd.mono ?_
      rintro e W1 ⟨hB1, rfl⟩
      have hV1 := HV0.out.below hB1
      have hBW := HB0.out.trans (hB1.mono (by simp))
      have hU1 := VBox.new W1 0 0 ⟨#[]⟩ (.slice none 0 0)
      have hV1' := hV1.alloc (.cells #[.int .i64 0, .int .i64 0, .string ⟨#[]⟩, .slice none 0 0] 30)
      have hBW' := hBW.alloc (by have := hV1.lt; omega) (.cells #[.int .i64 0, .int .i64 0, .string ⟨#[]⟩, .slice none 0 0] 30)
      have hz := hV1.lt
      have hc2 := HLI.out _ (HT.out.below hBW')
      have HV1 := Lib.hid hV1'
      have HU1 := Lib.hid hU1
      have HBW := Lib.hid hBW'
      clear hB1 hV1 hBW hrd hU1 hV1' hBW'
      go_wp2_with fail
      refine hc2.mono ?_
      rintro e W2 ⟨hB2, rfl⟩
      have hV2 := HV1.out.below hB2
      have hU2 := HU1.out.below hB2
      have hBW2 := HBW.out.trans (hB2.mono HBW.out.size)
      obtain ⟨⟨c0, c1, c2, c3⟩, f0, f1, f2, f3⟩ := hV2.facts
      obtain ⟨⟨v0, v1, v2, v3⟩, g0, g1, g2, g3⟩ := hU2.facts
      have HV2 := Lib.hid hV2
      have HU2 := Lib.hid hU2
      have HBW2 := Lib.hid hBW2
      clear hB2 hV2 hU2 hBW2 hc2
      go_wp2_with fail
      have hV3 := (HV2.out.putPast (b' := W1.heap.size) (by omega) 0 0 ⟨#[]⟩ (.slice none 0 0)).put 0 0 ⟨#[]⟩ (.slice none 0 0)
      have hB := below_put (below_put HBW2.out (b := W1.heap.size) (by omega) 0 0 ⟨#[]⟩ (.slice none 0 0)) (b := W.heap.size) (Nat.le_refl _) 0 0 ⟨#[]⟩ (.slice none 0 0)
      unfold putBox at hV3 hB
      generalize ((((((((W2.setCell ⟨W1.heap.size, 0, none⟩ (.int .i64 0)).setCell ⟨W1.heap.size, 1, none⟩ (.int .i64 0)).setCell ⟨W1.heap.size, 2, none⟩ (.string ⟨#[]⟩)).setCell ⟨W1.heap.size, 3, none⟩ (.slice none 0 0)).setCell ⟨W.heap.size, 0, none⟩ (.int .i64 0)).setCell ⟨W.heap.size, 1, none⟩ (.int .i64 0)).setCell ⟨W.heap.size, 2, none⟩ (.string ⟨#[]⟩)).setCell ⟨W.heap.size, 3, none⟩ (.slice none 0 0)) = W9 at hV3 hB ⊢
      obtain ⟨⟨x0, x1, x2, x3⟩, _⟩ := hV3.facts
      exact bodyPost_ret (v := .tuple #[valV 0 0 ⟨#[]⟩ (.slice none 0 0), .int .i64 (p : Int), .int .i64 30]) (by simp [results, Tryz.results27, go_sem, x0, x1, x2, x3]) rfl ⟨hB, rfl⟩
    | some x =>
      obtain ⟨us, k⟩ := x
      have hpk := HGE.out us k rfl
      simp only [Option.map_some]
      go_enter Tryz.func27, Tryz.ntmps27
      go_wp2_with fail
      refine hrd.mono ?_
      rintro e W1 ⟨hB1, rfl⟩
      have hV1 := HV0.out.below hB1
      have hBW := HB0.out.trans (hB1.mono (by simp))
      have hU1 := VBox.new W1 0 0 ⟨#[]⟩ (.slice none 0 0)
      have hV1' := hV1.alloc (.cells #[.int .i64 0, .int .i64 0, .string ⟨#[]⟩, .slice none 0 0] 30)
      have hBW' := hBW.alloc (by have := hV1.lt; omega) (.cells #[.int .i64 0, .int .i64 0, .string ⟨#[]⟩, .slice none 0 0] 30)
      have hz := hV1.lt
      have hc2 := HLI.out _ (HT.out.below hBW')
      have HV1 := Lib.hid hV1'
      have HU1 := Lib.hid hU1
      have HBW := Lib.hid hBW'
      clear hB1 hV1 hBW hrd hU1 hV1' hBW'
      go_wp2_with fail
      refine hc2.mono ?_
      rintro e W2 ⟨hB2, hl12, hfl, pp, pm, pc, rfl, hat, hbk⟩
      have hV2 := HV1.out.below hB2
      have hU2 := HU1.out.below hB2
      have hBW2 := HBW.out.trans (hB2.mono HBW.out.size)
      obtain ⟨⟨c0, c1, c2, c3⟩, f0, f1, f2, f3⟩ := hV2.facts
      obtain ⟨⟨v0, v1, v2, v3⟩, g0, g1, g2, g3⟩ := hU2.facts
      have hbk2 : ∀ a, pp = some a → W1.heap.size + 1 ≤ a.block := fun a ha => by have := hbk a ha; simpa using this
      have hX1 := vat_put hat (.inr ⟨us, rfl, hfl⟩) W1.heap.size (fun a ha => by have := hbk2 a ha; omega) 5 0 ⟨#[]⟩ (.slice pp pm pc)
      have hX2 := vat_put hX1 (.inr ⟨us, rfl, hfl⟩) W.heap.size (fun a ha => by have := hbk2 a ha; omega) 5 0 ⟨#[]⟩ (.slice pp pm pc)
      have HV2 := Lib.hid hV2
      have HX := Lib.hid hX2
      have HBW2 := Lib.hid hBW2
      clear hB2 hV2 hU2 hBW2 hc2 hat hbk hfl hl12 hX1 hX2 hbk2
      go_wp2_with fail
      have hV3 := (HV2.out.putPast (b' := W1.heap.size) (by omega) 5 0 ⟨#[]⟩ (.slice pp pm pc)).put 5 0 ⟨#[]⟩ (.slice pp pm pc)
      have hB := below_put (below_put HBW2.out (b := W1.heap.size) (by omega) 5 0 ⟨#[]⟩ (.slice pp pm pc)) (b := W.heap.size) (Nat.le_refl _) 5 0 ⟨#[]⟩ (.slice pp pm pc)
      have hX := HX.out
      unfold putBox at hV3 hB hX
      generalize ((((((((W2.setCell ⟨W1.heap.size, 0, none⟩ (.int .i64 5)).setCell ⟨W1.heap.size, 1, none⟩ (.int .i64 0)).setCell ⟨W1.heap.size, 2, none⟩ (.string ⟨#[]⟩)).setCell ⟨W1.heap.size, 3, none⟩ (.slice pp pm pc)).setCell ⟨W.heap.size, 0, none⟩ (.int .i64 5)).setCell ⟨W.heap.size, 1, none⟩ (.int .i64 0)).setCell ⟨W.heap.size, 2, none⟩ (.string ⟨#[]⟩)).setCell ⟨W.heap.size, 3, none⟩ (.slice pp pm pc)) = W9 at hV3 hB hX ⊢
      obtain ⟨⟨x0, x1, x2, x3⟩, _⟩ := hV3.facts
      exact bodyPost_ret (v := .tuple #[valV 5 0 ⟨#[]⟩ (.slice pp pm pc), .int .i64 (k : Int), .int .i64 0]) (by simp [results, Tryz.results27, go_sem, x0, x1, x2, x3]) rfl ⟨hB, ⟨5, 0, ⟨#[]⟩, pp, pm, pc⟩, by show _ = Ending.returned (.tuple #[valV 5 0 ⟨#[]⟩ (.slice pp pm pc), .int .i64 ((p : Int) + ((k - p : Nat) : Int)), .int .i64 0]); rw [show (p : Int) + ((k - p : Nat) : Int) = k from by omega], hX⟩
end Go.Proofs.YtmijlcilnaeppaaGreatDoor

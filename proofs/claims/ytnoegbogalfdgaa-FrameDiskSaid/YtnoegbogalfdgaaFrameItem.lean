/- Batches as frames: what Join tells of a beginning of them. -/
import Derived.Test.YtnoegbogalfdgaaFrameExamples
set_option linter.unusedSimpArgs false
set_option linter.unusedVariables false
namespace Go.Proofs.Ytnoegbogalfdgaa
open Go Go.RowKit Wire

def piece (b : ByteArray) (n k : Nat) : ByteArray := if k + 1 = n then b.extract (k * 53) b.size else (b.extract (k * 53) b.size).extract 0 53
theorem piece_list (b : ByteArray) (n k : Nat) (h : b.size ≤ 53 * n) (hk : k < n) : (piece b n k).data.toList = (b.data.toList.drop (53 * k)).take 53 := by
  unfold piece
  split
  · rw [ByteArray.data_extract, Array.toList_extract, List.extract_eq_take_drop]
    have hl : b.data.toList.length = b.size := by simp
    rw [Nat.mul_comm k 53, List.take_of_length_le (by rw [List.length_drop, hl]; omega), List.take_of_length_le (by rw [List.length_drop, hl]; omega)]
  · rw [ByteArray.data_extract, Array.toList_extract, List.extract_eq_take_drop, ByteArray.data_extract, Array.toList_extract, List.extract_eq_take_drop]
    have hl : b.data.toList.length = b.size := by simp
    rw [Nat.mul_comm k 53, List.drop_zero, Nat.sub_zero, List.take_of_length_le (l := List.drop (53 * k) b.data.toList) (i := b.size - 53 * k) (by rw [List.length_drop, hl]; omega)]
theorem piece_join (b : ByteArray) (n k : Nat) (h : b.size ≤ 53 * n) (hk : k < n) : b.data.toList.take (53 * k) ++ (piece b n k).data.toList = b.data.toList.take (53 * (k + 1)) := by
  rw [piece_list b n k h hk, ← List.take_add]
  congr 1
theorem piece_size (b : ByteArray) (n k : Nat) (h : b.size ≤ 53 * n) (h2 : 53 * (n - 1) ≤ b.size) (hk : k < n) (hl : ¬ k + 1 = n) : (piece b n k).size = 53 := by
  have := congrArg List.length (piece_list b n k h hk)
  have hz : (piece b n k).data.toList.length = (piece b n k).size := by simp
  have hz2 : b.data.toList.length = b.size := by simp
  rw [hz, List.length_take, List.length_drop, hz2] at this
  omega

/-- one batch among them -/
structure Item where
  ep : Nat
  s : ByteArray
  closed : Bool
  at' : Nat
  n : Nat
def frOf (x : Item) (i : Nat) : Fr := ⟨(x.ep : Int), (x.at' : Int) + (i : Int), if i + 1 = x.n then 3 else 2, piece x.s x.n i⟩
def sealFr : Fr := ⟨3, 0, 4, ⟨#[]⟩⟩
def Item.frames (x : Item) : List Fr := (List.range x.n).map (frOf x) ++ if x.closed then [sealFr] else []
structure Item.good (x : Item) : Prop where
  n1 : 1 ≤ x.n
  lo : 53 * (x.n - 1) ≤ x.s.size
  hi : x.s.size ≤ 53 * x.n
  fits : x.at' + x.n ≤ 64
  ep : 1 ≤ x.ep ∧ x.ep ≤ 16777215
def Item.len (x : Item) : Nat := x.n + if x.closed then 1 else 0
theorem Item.frames_length (x : Item) : x.frames.length = x.len := by
  unfold Item.frames Item.len; cases x.closed <;> simp

theorem piece_le (x : Item) (h : x.good) {i : Nat} (hi : i < x.n) : (piece x.s x.n i).data.toList.length ≤ 53 := by
  rw [piece_list _ _ _ h.hi hi, List.length_take]; omega
theorem fr_right (x : Item) (h : x.good) {i : Nat} (hi : i < x.n) : Frame.right (frOf x i).e (frOf x i).a (frOf x i).k (frOf x i).s.data.toList = true := by
  have h1 := piece_le x h hi
  have h2 := h.fits
  have h3 := h.ep
  unfold Frame.right
  simp only [decide_eq_true_eq]
  show (1 : Int) ≤ (x.ep : Int) ∧ (x.ep : Int) ≤ 16777215 ∧ 0 ≤ (x.at' : Int) + (i : Int) ∧ (x.at' : Int) + (i : Int) < 64 ∧ 1 ≤ (if i + 1 = x.n then (3 : Int) else 2) ∧ (if i + 1 = x.n then (3 : Int) else 2) ≤ 4 ∧ (piece x.s x.n i).data.toList.length ≤ 53
  refine ⟨by omega, by omega, by omega, by omega, ?_, ?_, h1⟩ <;> split <;> omega

theorem join_part (x : Item) (h : x.good) {i : Nat} (hi : i + 1 < x.n) (r : List Fr) (j : Nat) (bs : List ByteArray) (g : Bool) (c : Nat) :
    joinGo (frOf x i :: r) j bs (x.s.data.toList.take (53 * i)) g c = joinGo r (j + 1) bs (x.s.data.toList.take (53 * (i + 1))) true c := by
  have hk : (frOf x i).k = 2 := by show (if i + 1 = x.n then (3 : Int) else 2) = 2; rw [if_neg (by omega)]
  rw [joinGo, fr_right x h (by omega), hk]
  rw [if_neg (by simp), if_neg (by decide), if_pos rfl]
  congr 1
  exact piece_join x.s x.n i h.hi (by omega)
theorem join_last (x : Item) (h : x.good) {i : Nat} (hi : i + 1 = x.n) (r : List Fr) (j : Nat) (bs : List ByteArray) (g : Bool) (c : Nat) :
    joinGo (frOf x i :: r) j bs (x.s.data.toList.take (53 * i)) g c = joinGo r (j + 1) (bs ++ [x.s]) [] false (j + 1) := by
  have hk : (frOf x i).k = 3 := by show (if i + 1 = x.n then (3 : Int) else 2) = 3; rw [if_pos hi]
  have hb : (⟨(x.s.data.toList.take (53 * i) ++ (frOf x i).s.data.toList).toArray⟩ : ByteArray) = x.s := by
    apply ByteArray.ext
    apply Array.toList_inj.1
    show x.s.data.toList.take (53 * i) ++ (piece x.s x.n i).data.toList = _
    rw [piece_join x.s x.n i h.hi (by omega)]
    have h1 := h.hi
    rw [hi]
    exact List.take_of_length_le (by have : x.s.data.toList.length = x.s.size := by simp
                                     omega)
  rw [joinGo, fr_right x h (by omega), hk]
  rw [if_neg (by simp), if_neg (by decide), if_neg (by decide), hb]
theorem join_seal (r : List Fr) (j : Nat) (bs : List ByteArray) (c : Nat) : joinGo (sealFr :: r) j bs [] false c = joinGo r (j + 1) bs [] false (j + 1) := by
  rw [joinGo]
  rw [if_neg (by decide), if_pos (by rfl)]

/-- a beginning of a batch's frames, none of them the last -/
theorem join_begin (x : Item) (h : x.good) : ∀ (m i : Nat), i + m < x.n → ∀ (r : List Fr) (j : Nat) (bs : List ByteArray) (g : Bool) (c : Nat),
    ∃ g', joinGo ((List.range' i m).map (frOf x) ++ r) j bs (x.s.data.toList.take (53 * i)) g c = joinGo r (j + m) bs (x.s.data.toList.take (53 * (i + m))) g' c
  | 0, i, _, r, j, bs, g, c => ⟨g, by simp⟩
  | m + 1, i, hm, r, j, bs, g, c => by
    obtain ⟨g', hg⟩ := join_begin x h m (i + 1) (by omega) r (j + 1) bs true c
    refine ⟨g', ?_⟩
    rw [List.range'_succ, List.map_cons, List.cons_append, join_part x h (by omega), hg]
    rw [show j + 1 + m = j + (m + 1) from by omega, show i + 1 + m = i + (m + 1) from by omega]
/-- all of them -/
theorem join_parts (x : Item) (h : x.good) (r : List Fr) (j : Nat) (bs : List ByteArray) (c : Nat) :
    joinGo ((List.range x.n).map (frOf x) ++ r) j bs [] false c = joinGo r (j + x.n) (bs ++ [x.s]) [] false (j + x.n) := by
  have h1 := h.n1
  obtain ⟨g', hg⟩ := join_begin x h (x.n - 1) 0 (by omega) (frOf x (x.n - 1) :: r) j bs false c
  have hr : (List.range x.n).map (frOf x) ++ r = (List.range' 0 (x.n - 1)).map (frOf x) ++ (frOf x (x.n - 1) :: r) := by
    have : List.range x.n = List.range' 0 (x.n - 1) ++ [x.n - 1] := by
      rw [← List.range_eq_range', ← List.range_succ, show (x.n - 1).succ = x.n from by omega]
    rw [this, List.map_append, List.append_assoc]
    rfl
  rw [hr]
  rw [show 53 * 0 = 0 from rfl, List.take_zero] at hg
  rw [hg, Nat.zero_add, join_last x h (by omega)]
  rw [show j + (x.n - 1) + 1 = j + x.n from by omega]
theorem join_item (x : Item) (h : x.good) (r : List Fr) (j : Nat) (bs : List ByteArray) (c : Nat) :
    joinGo (x.frames ++ r) j bs [] false c = joinGo r (j + x.len) (bs ++ [x.s]) [] false (j + x.len) := by
  unfold Item.frames Item.len
  cases x.closed with
  | false =>
    simp only [Bool.false_eq_true, if_false, List.append_nil, Nat.add_zero]
    exact join_parts x h r j bs c
  | true =>
    simp only [if_true]
    rw [List.append_assoc, join_parts x h, List.singleton_append, join_seal, Nat.add_assoc]
/-- a beginning of one batch's frames that holds not all of them -/
theorem join_few (x : Item) (h : x.good) {k : Nat} (hk : k < x.n) (j : Nat) (bs : List ByteArray) (c : Nat) : joinGo (x.frames.take k) j bs [] false c = (bs, c) := by
  have ht : x.frames.take k = (List.range' 0 k).map (frOf x) ++ [] := by
    unfold Item.frames
    rw [List.take_append_of_le_length (by simp; omega), ← List.map_take, List.append_nil, ← List.range_eq_range', List.take_range, Nat.min_eq_left (by omega)]
  rw [ht]
  obtain ⟨g', hg⟩ := join_begin x h k 0 (by omega) [] j bs false c
  rw [show 53 * 0 = 0 from rfl, List.take_zero] at hg
  rw [hg, joinGo]

def ends : List Item → Nat → List Nat
  | [], _ => []
  | x :: r, i => (i + x.n) :: ends r (i + x.len)
theorem ends_length : ∀ (l : List Item) (i : Nat), (ends l i).length = l.length
  | [], _ => rfl
  | x :: r, i => by simp [ends, ends_length r]
theorem ends_ge : ∀ (l : List Item) (i : Nat), ∀ e ∈ ends l i, i ≤ e
  | [], _, e, h => by simp [ends] at h
  | x :: r, i, e, h => by
    simp only [ends, List.mem_cons] at h
    rcases h with rfl | h
    · omega
    · have := ends_ge r _ e h
      unfold Item.len at this; omega
def total (l : List Item) : Nat := (l.map Item.len).sum
theorem total_frames (l : List Item) : (l.flatMap Item.frames).length = total l := by
  unfold total
  induction l with
  | nil => rfl
  | cons x r ih => rw [List.flatMap_cons, List.length_append, ih, Item.frames_length]; rfl
theorem ends_snoc : ∀ (l : List Item) (x : Item) (i : Nat), ends (l ++ [x]) i = ends l i ++ [i + total l + x.n]
  | [], x, i => by simp [ends, total]
  | y :: r, x, i => by
    simp only [List.cons_append, ends, ends_snoc r x]
    congr 2
    congr 1
    have : total (y :: r) = y.len + total r := by simp [total]
    rw [this]; omega
theorem ends_le : ∀ (l : List Item) (i : Nat), ∀ e ∈ ends l i, e ≤ i + total l
  | [], _, e, h => by simp [ends] at h
  | x :: r, i, e, h => by
    have ht : total (x :: r) = x.len + total r := by simp [total]
    simp only [ends, List.mem_cons] at h
    rcases h with rfl | h
    · have : x.n ≤ x.len := by unfold Item.len; omega
      omega
    · have := ends_le r _ e h
      omega

theorem join_all : ∀ (l : List Item), (∀ x ∈ l, x.good) → ∀ (j : Nat) (bs : List ByteArray) (c : Nat), joinGo (l.flatMap Item.frames) j bs [] false c = (bs ++ l.map Item.s, if l = [] then c else j + total l)
  | [], _, j, bs, c => by simp [joinGo]
  | x :: r, h, j, bs, c => by
    rw [List.flatMap_cons, join_item x (h x List.mem_cons_self), join_all r (fun y hy => h y (List.mem_cons_of_mem _ hy))]
    have ht : total (x :: r) = x.len + total r := by simp [total]
    rw [ht]
    simp only [List.map_cons, List.append_assoc, List.singleton_append, Prod.mk.injEq, true_and]
    rw [if_neg (show ¬ (x :: r = []) from by simp)]
    cases r with
    | nil => simp [total]
    | cons y r => rw [if_neg (by simp)]; omega

def many (l : List Item) (i k : Nat) : Nat := ((ends l i).filter (fun e => decide (e ≤ k))).length
theorem many_le (l : List Item) (i k : Nat) : many l i k ≤ l.length := by
  unfold many
  have := List.length_filter_le (fun e => decide (e ≤ k)) (ends l i)
  rw [ends_length] at this; exact this
theorem many_zero {l : List Item} {i k : Nat} (h : ∀ e ∈ ends l i, k < e) : many l i k = 0 := by
  unfold many
  rw [List.length_eq_zero_iff, List.filter_eq_nil_iff]
  intro e he
  have := h e he
  simp; omega

theorem join_cut : ∀ (l : List Item), (∀ x ∈ l, x.good) → ∀ (k i : Nat) (bs : List ByteArray) (c : Nat), c ≤ i →
    ∃ m, joinGo ((l.flatMap Item.frames).take k) i bs [] false c = (bs ++ (l.map Item.s).take (many l i (i + k)), m) ∧ c ≤ m ∧ m ≤ i + k ∧ (∀ (h : 0 < many l i (i + k)), ∀ e, (ends l i)[many l i (i + k) - 1]? = some e → e ≤ m)
  | [], _, k, i, bs, c, hc => by
    refine ⟨c, ?_, Nat.le_refl _, by omega, fun h => ?_⟩
    · simp [joinGo]
    · simp [many, ends] at h
  | x :: r, hg, k, i, bs, c, hc => by
    have hx := hg x List.mem_cons_self
    have hr : ∀ y ∈ r, y.good := fun y hy => hg y (List.mem_cons_of_mem _ hy)
    have hn1 := hx.n1
    rw [List.flatMap_cons]
    by_cases h1 : k < x.n
    · have hz : many (x :: r) i (i + k) = 0 := many_zero (fun e he => by
        simp only [ends, List.mem_cons] at he
        rcases he with rfl | he
        · omega
        · have := ends_ge r _ e he
          unfold Item.len at this; omega)
      rw [hz]
      refine ⟨c, ?_, Nat.le_refl _, by omega, fun h => absurd h (by omega)⟩
      rw [List.take_append_of_le_length (by rw [Item.frames_length]; unfold Item.len; omega), join_few x hx h1]
      simp
    · have hm1 : i + x.n ≤ i + k → many (x :: r) i (i + k) = many r (i + x.len) (i + k) + 1 := fun h => by
        unfold many
        rw [ends, List.filter_cons, if_pos (by simpa using h)]
        simp
      have hm := hm1 (by omega)
      by_cases h2 : k < x.len
      · -- the end is there, its closed is not
        have hseal : x.closed = true := by
          unfold Item.len at h2
          cases hs : x.closed with
          | true => rfl
          | false => simp [hs] at h2; omega
        have hk : k = x.n := by unfold Item.len at h2; simp [hseal] at h2; omega
        subst hk
        have hz : many r (i + x.len) (i + x.n) = 0 := many_zero (fun e he => by
          have := ends_ge r _ e he
          omega)
        rw [hm, hz]
        refine ⟨i + x.n, ?_, by omega, by omega, fun _ e he => ?_⟩
        · have ht : (x.frames ++ r.flatMap Item.frames).take x.n = (List.range x.n).map (frOf x) ++ [] := by
            unfold Item.frames
            rw [List.take_append_of_le_length (by simp), List.take_append_of_le_length (by simp), List.append_nil]
            exact List.take_of_length_le (by simp)
          rw [ht, join_parts x hx, joinGo]
          simp
        · simp [ends] at he
          omega
      · have ht : (x.frames ++ r.flatMap Item.frames).take k = x.frames ++ (r.flatMap Item.frames).take (k - x.len) := by
          rw [List.take_append, Item.frames_length, List.take_of_length_le (by rw [Item.frames_length]; omega)]
        obtain ⟨m, q1, q2, q3, q4⟩ := join_cut r hr (k - x.len) (i + x.len) (bs ++ [x.s]) (i + x.len) (Nat.le_refl _)
        have hk2 : i + x.len + (k - x.len) = i + k := by omega
        rw [hk2] at q1 q3 q4
        refine ⟨m, ?_, by omega, q3, fun h e he => ?_⟩
        · rw [ht, join_item x hx, q1, hm]
          simp
        · rw [hm] at he h
          simp only [Nat.add_sub_cancel] at he
          by_cases h0 : 0 < many r (i + x.len) (i + k)
          · have he' : (ends r (i + x.len))[many r (i + x.len) (i + k) - 1]? = some e := by
              rw [ends] at he
              rw [show many r (i + x.len) (i + k) = (many r (i + x.len) (i + k) - 1) + 1 from by omega, List.getElem?_cons_succ] at he
              exact he
            exact q4 h0 e he'
          · have hz : many r (i + x.len) (i + k) = 0 := by omega
            rw [hz, ends] at he
            simp at he
            have : x.n ≤ x.len := by unfold Item.len; omega
            omega
end Go.Proofs.Ytnoegbogalfdgaa

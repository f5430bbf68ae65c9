/- Texts put together: ValTxt, ReadNum, Owned, Unq. -/
import Derived.Test.YtmijlcilnaeppaaGreatDoorBun6
import Derived.Lib.ItoaNum
import Derived.Test.YtmijlcilnaeppaaGreatDoorBun5
import Derived.WalkKit
import Derived.Below
import Derived.OwnWalk
import Derived.Deep.AppendLies
import Derived.RangeFuncRecord
import Derived.Lib.BufferRead
import Derived.Test.YtmijlcilnaeppaaGreatDoorBun1
/- How values are written and read: as functions, and that reading undoes writing. -/
set_option linter.unusedSimpArgs false
set_option linter.unusedVariables false
namespace Go.Proofs.YtmijlcilnaeppaaGreatDoor
open Go Go.RowKit Go.Shelf

def isDig (c : UInt8) : Bool := decide (48 ≤ (c.toNat : Int) ∧ (c.toNat : Int) ≤ 57)
/-- digits ahead, as many as make no more than most: the number, and how many -/
def digGo (most : Int) : Int → List UInt8 → Int × Nat
  | n, [] => (n, 0)
  | n, c :: r => if isDig c = true ∧ n * 10 + ((c.toNat : Int) - 48) ≤ most then ((digGo most (n * 10 + ((c.toNat : Int) - 48)) r).1, (digGo most (n * 10 + ((c.toNat : Int) - 48)) r).2 + 1) else (n, 0)
/-- readNum, behind its sign -/
def numTail (sign : Int) (most : Int) (l : List UInt8) : Int × Nat × Bool :=
  if l.head? = some 48 then (0, 1, decide (0 < sign)) else (sign * (digGo most 0 l).1, (digGo most 0 l).2, decide (0 < (digGo most 0 l).2))
def numTxt (least most : Int) (l : List UInt8) : Int × Nat × Bool :=
  if l.head? = some 45 then ((numTail (-1) (-least) l.tail).1, (numTail (-1) (-least) l.tail).2.1 + 1, (numTail (-1) (-least) l.tail).2.2) else numTail 1 most l

/-- a text behind its first quote: itself, and how many bytes there are with the last quote -/
def unq : List UInt8 → List UInt8 → Option (List UInt8 × Nat)
  | acc, [] => none
  | acc, c :: r =>
    if c = 34 then some (acc, 1)
    else if c = 92 then
      match r with
      | [] => none
      | d :: r' => if d = 34 ∨ d = 92 then (unq (acc ++ [d]) r').map (fun x => (x.1, x.2 + 2)) else none
    else (unq (acc ++ [c]) r).map (fun x => (x.1, x.2 + 1))

/-- a value that is no list -/
def readIn (l : List UInt8) : Option (V × Nat) :=
  match l with
  | [] => none
  | c :: r =>
    if c = 34 then
      match unq [] r with
      | none => none
      | some (t, k) => if flatOk 2 0 ⟨t.toArray⟩ 0 = true then some (.mk 2 0 ⟨t.toArray⟩ [], k + 1) else none
    else if c = 64 then
      (if (numTxt (-20) 100000 r).2.2 = true ∧ flatOk 3 (numTxt (-20) 100000 r).1 ⟨#[]⟩ 0 = true then some (.mk 3 (numTxt (-20) 100000 r).1 ⟨#[]⟩ [], (numTxt (-20) 100000 r).2.1 + 1) else none)
    else if c = 126 then
      (if (numTxt (-20) 100000 r).2.2 = true ∧ flatOk 4 (numTxt (-20) 100000 r).1 ⟨#[]⟩ 0 = true then some (.mk 4 (numTxt (-20) 100000 r).1 ⟨#[]⟩ [], (numTxt (-20) 100000 r).2.1 + 1) else none)
    else if (numTxt (-1000000000000000) 1000000000000000 (c :: r)).2.2 = true then
      (if flatOk 1 (numTxt (-1000000000000000) 1000000000000000 (c :: r)).1 ⟨#[]⟩ 0 = true then some (.mk 1 (numTxt (-1000000000000000) 1000000000000000 (c :: r)).1 ⟨#[]⟩ [], (numTxt (-1000000000000000) 1000000000000000 (c :: r)).2.1) else none)
    else if c = 45 then some (.mk 0 0 ⟨#[]⟩ [], 1) else none

/-- a list behind its bracket, of which so much is read -/
def readItems : Nat → List V → List UInt8 → Option (List V × Nat)
  | 0, acc, _ => none
  | n + 1, acc, [] => none
  | n + 1, acc, c :: r =>
    if 12 < acc.length then none
    else if c = 93 then some (acc, 1)
    else if acc = [] then
      match readIn (c :: r) with
      | none => none
      | some (u, k) => (readItems n (acc ++ [u]) ((c :: r).drop k)).map (fun x => (x.1, x.2 + k))
    else if c = 32 then
      match readIn r with
      | none => none
      | some (u, k) => (readItems n (acc ++ [u]) (r.drop k)).map (fun x => (x.1, x.2 + (k + 1)))
    else none
def readV (l : List UInt8) : Option (V × Nat) :=
  match readIn l with
  | some x => some x
  | none => if l.head? = some 91 then (readItems 14 [] l.tail).map (fun x => (V.mk 5 0 ⟨#[]⟩ x.1, x.2 + 1)) else none

/-- a text in quotes, behind the first one -/
def quoted : List UInt8 → List UInt8
  | [] => []
  | c :: r => if c = 34 ∨ c = 92 then 92 :: c :: quoted r else c :: quoted r
theorem unq_quoted : ∀ (t acc r : List UInt8), unq acc (quoted t ++ 34 :: r) = some (acc ++ t, (quoted t).length + 1)
  | [], acc, r => by
    show unq acc (34 :: r) = _
    unfold unq
    rw [if_pos rfl, List.append_nil]; rfl
  | c :: t, acc, r => by
    by_cases h : c = 34 ∨ c = 92
    · have e : quoted (c :: t) = 92 :: c :: quoted t := by show (if c = 34 ∨ c = 92 then _ else _) = _; rw [if_pos h]
      rw [e]
      show unq acc (92 :: c :: (quoted t ++ 34 :: r)) = _
      unfold unq
      rw [if_neg (by decide), if_pos rfl]
      simp only
      rw [if_pos h, unq_quoted t]
      simp
    · have e : quoted (c :: t) = c :: quoted t := by show (if c = 34 ∨ c = 92 then _ else _) = _; rw [if_neg h]
      rw [e]
      show unq acc (c :: (quoted t ++ 34 :: r)) = _
      unfold unq
      rw [if_neg (fun k => h (.inl k)), if_neg (fun k => h (.inr k)), unq_quoted t]
      simp

theorem digGo_stop {most n : Int} {r : List UInt8} (h : ∀ c ∈ r.head?, isDig c = false) : digGo most n r = (n, 0) := by
  cases r with
  | nil => rfl
  | cons c r =>
    show (if isDig c = true ∧ _ then _ else _) = _
    rw [if_neg]
    rintro ⟨a, _⟩
    have := h c rfl
    rw [a] at this
    cases this
theorem dig_of {u : Nat} (h : u < 10) : (UInt8.ofNat (48 + u)).toNat = 48 + u := by simp; omega
theorem isDig_of {u : Nat} (h : u < 10) : isDig (UInt8.ofNat (48 + u)) = true := by
  unfold isDig
  rw [dig_of h]
  exact decide_eq_true (by omega)
theorem digGo_dec (most : Int) : ∀ (u : Nat), (u : Int) ≤ most → ∀ r, digGo most 0 (Lib.decDigits u ++ r) = ((digGo most u r).1, (digGo most u r).2 + (Lib.decDigits u).length) := by
  intro u
  induction u using Nat.strongRecOn with
  | _ u ih =>
    intro hu r
    have step : ∀ (n : Int) (d : Nat) (r : List UInt8), d < 10 → n * 10 + (d : Int) ≤ most → digGo most n (UInt8.ofNat (48 + d) :: r) = ((digGo most (n * 10 + d) r).1, (digGo most (n * 10 + d) r).2 + 1) := by
      intro n d r hd hm
      show (if isDig _ = true ∧ _ then _ else _) = _
      have e : (((UInt8.ofNat (48 + d)).toNat : Int) - 48) = d := by rw [dig_of hd]; omega
      rw [e, if_pos ⟨isDig_of hd, hm⟩]
    by_cases h : u < 10
    · rw [Lib.decDigits_one h, List.singleton_append, step 0 u r h (by omega)]
      simp
    · have e : Lib.decDigits u = Lib.decDigits (u / 10) ++ [UInt8.ofNat (48 + u % 10)] := by rw [Lib.decDigits, dif_neg h]
      rw [e, List.append_assoc, ih (u / 10) (by omega) (by omega), List.singleton_append, step _ _ r (by omega) (by omega)]
      have e2 : ((u / 10 : Nat) : Int) * 10 + ((u % 10 : Nat) : Int) = (u : Int) := by omega
      rw [e2, List.length_append, List.length_singleton]
      simp only [Prod.mk.injEq, true_and]
      omega
theorem dec_head : ∀ (u : Nat), ∃ d r, d < 10 ∧ Lib.decDigits u = UInt8.ofNat (48 + d) :: r ∧ (0 < u → 0 < d) := by
  intro u
  induction u using Nat.strongRecOn with
  | _ u ih =>
    by_cases h : u < 10
    · exact ⟨u, [], h, Lib.decDigits_one h, fun k => k⟩
    · obtain ⟨d, r, h1, h2, h3⟩ := ih (u / 10) (by omega)
      refine ⟨d, r ++ [UInt8.ofNat (48 + u % 10)], h1, ?_, fun _ => h3 (by omega)⟩
      rw [Lib.decDigits, dif_neg h, h2]
      rfl
theorem digGo_dec_stop {most : Int} {u : Nat} (hu : (u : Int) ≤ most) {r : List UInt8} (h : ∀ c ∈ r.head?, isDig c = false) : digGo most 0 (Lib.decDigits u ++ r) = ((u : Int), (Lib.decDigits u).length) := by
  rw [digGo_dec most u hu, digGo_stop h]
  simp
theorem numTail_dec {sign most : Int} {u : Nat} (hu : (u : Int) ≤ most) (h0 : u = 0 → 0 < sign) {r : List UInt8} (h : ∀ c ∈ r.head?, isDig c = false) : numTail sign most (Lib.decDigits u ++ r) = (sign * u, (Lib.decDigits u).length, true) := by
  obtain ⟨d, q, h1, h2, h3⟩ := dec_head u
  unfold numTail
  by_cases hz : u = 0
  · subst hz
    have e : ([UInt8.ofNat (48 + 0)] ++ r).head? = some 48 := rfl
    rw [Lib.decDigits_one (by decide), if_pos e]
    simp [h0 rfl]
  · have hh : ¬ (Lib.decDigits u ++ r).head? = some 48 := by
      rw [h2]
      intro k
      have k' : UInt8.ofNat (48 + d) = 48 := by simpa using k
      have := congrArg UInt8.toNat k'
      rw [dig_of h1] at this
      have := h3 (by omega)
      simp at *; omega
    rw [if_neg hh, digGo_dec_stop hu h]
    have : 0 < (Lib.decDigits u).length := by rw [h2]; simp
    simp [this]
theorem head_dec {u : Nat} {r : List UInt8} : ∃ d, d < 10 ∧ (Lib.decDigits u ++ r).head? = some (UInt8.ofNat (48 + d)) := by
  obtain ⟨d, q, h1, h2, h3⟩ := dec_head u
  exact ⟨d, h1, by rw [h2]; rfl⟩
theorem dig_ne {d : Nat} (h : d < 10) {c : UInt8} (hc : c.toNat < 48 ∨ 57 < c.toNat) : UInt8.ofNat (48 + d) ≠ c := by
  intro e
  have := congrArg UInt8.toNat e
  rw [dig_of h] at this
  omega
theorem numTxt_itoa {least most n : Int} (h1 : least ≤ n) (h2 : n ≤ most) {r : List UInt8} (h : ∀ c ∈ r.head?, isDig c = false) : numTxt least most (Lib.itoa n ++ r) = (n, (Lib.itoa n).length, true) := by
  unfold numTxt Lib.itoa
  by_cases hn : n < 0
  · rw [if_pos hn, List.cons_append, if_pos List.head?_cons, List.tail_cons, numTail_dec (by omega) (by omega) h]
    simp only [List.length_cons, Prod.mk.injEq, and_true]
    omega
  · rw [if_neg hn]
    obtain ⟨d, hd, e⟩ := @head_dec n.toNat r
    rw [e, if_neg (fun k => dig_ne hd (c := 45) (by decide) (by simpa using k)), numTail_dec (by omega) (by omega) h]
    simp only [Prod.mk.injEq, and_true]
    omega
theorem itoa_head {n : Int} {r : List UInt8} : ∃ c, (Lib.itoa n ++ r).head? = some c ∧ (c = 45 ∧ n < 0 ∨ 48 ≤ c.toNat ∧ c.toNat ≤ 57) ∧ Lib.itoa n ++ r = c :: (Lib.itoa n ++ r).tail := by
  unfold Lib.itoa
  by_cases hn : n < 0
  · rw [if_pos hn]
    exact ⟨45, rfl, .inl ⟨rfl, hn⟩, rfl⟩
  · rw [if_neg hn]
    obtain ⟨d, q, h1, h2, _⟩ := dec_head n.toNat
    refine ⟨UInt8.ofNat (48 + d), by rw [h2]; rfl, .inr (by rw [dig_of h1]; omega), by rw [h2]; rfl⟩

/-- how a value is written -/
def V.textIn (u : V) : List UInt8 :=
  if u.k = 1 then Lib.itoa u.n
  else if u.k = 2 then 34 :: (quoted u.s.data.toList ++ [34])
  else if u.k = 3 then 64 :: Lib.itoa u.n
  else if u.k = 4 then 126 :: Lib.itoa u.n
  else [45]
def moreText (us : List V) : List UInt8 := us.flatMap (fun u => 32 :: u.textIn)
def itemsText : List V → List UInt8
  | [] => []
  | u :: us => u.textIn ++ moreText us
def V.text (v : V) : List UInt8 := if v.k = 5 then 91 :: (itemsText v.l ++ [93]) else v.textIn

theorem readIn_text (u : V) (h : u.flatOk = true) (r : List UInt8) (hr : ∀ c ∈ r.head?, isDig c = false) : readIn (u.textIn ++ r) = some (u, u.textIn.length) := by
  rcases flat_ways h with ⟨h0, h1⟩ | ⟨h0, h1, h2, h3⟩ | ⟨h0, h1, h2, h3⟩
  · have e : u.textIn = [45] := by unfold V.textIn; rw [if_neg (by omega), if_neg (by omega), if_neg (by omega), if_neg (by omega)]
    rw [e]
    show readIn (45 :: r) = _
    have hn : (numTxt (-1000000000000000) 1000000000000000 (45 :: r)).2.2 = false := by
      unfold numTxt
      rw [if_pos List.head?_cons]
      show (numTail (-1) _ r).2.2 = false
      unfold numTail
      split
      · rfl
      · rw [digGo_stop hr]; rfl
    unfold readIn
    show (if _ then _ else _) = _
    rw [if_neg (by decide), if_neg (by decide), if_neg (by decide), if_neg (by rw [hn]; decide), if_pos rfl, ← h1]
    rfl
  · rcases h0 with h0 | h0 | h0
    · have e : u.textIn = Lib.itoa u.n := by unfold V.textIn; rw [if_pos h0]
      have hb : -1000000000000000 ≤ u.n ∧ u.n ≤ 1000000000000000 := (flatOk_parts h).2.2.2
      rw [e]
      obtain ⟨c, e1, e2, e3⟩ := @itoa_head u.n r
      have hn := numTxt_itoa hb.1 hb.2 hr
      rw [e3] at hn ⊢
      unfold readIn
      have c1 : c ≠ 34 := by rintro rfl; rcases e2 with ⟨k, _⟩ | k; cases k; exact absurd k.1 (by decide)
      have c2 : c ≠ 64 := by rintro rfl; rcases e2 with ⟨k, _⟩ | k; cases k; exact absurd k.2 (by decide)
      have c3 : c ≠ 126 := by rintro rfl; rcases e2 with ⟨k, _⟩ | k; cases k; exact absurd k.2 (by decide)
      rw [h0] at h1 h2
      simp only
      rw [if_neg c1, if_neg c2, if_neg c3, hn, if_pos rfl, if_pos h2, ← h1]
    · have e : u.textIn = 64 :: Lib.itoa u.n := by unfold V.textIn; rw [if_neg (by omega), if_neg (by omega), if_pos h0]
      rw [h0] at h1 h2
      have hb : -20 ≤ u.n ∧ u.n ≤ 100000 := by
        have := of_decide_eq_true h2
        omega
      rw [e]
      show readIn (64 :: (Lib.itoa u.n ++ r)) = _
      unfold readIn
      show (if _ then _ else _) = _
      rw [if_neg (by decide), if_pos rfl, numTxt_itoa hb.1 hb.2 hr, if_pos ⟨rfl, h2⟩, ← h1]
      rfl
    · have e : u.textIn = 126 :: Lib.itoa u.n := by unfold V.textIn; rw [if_neg (by omega), if_neg (by omega), if_neg (by omega), if_pos h0]
      rw [h0] at h1 h2
      have hb : -20 ≤ u.n ∧ u.n ≤ 100000 := by
        have := of_decide_eq_true h2
        omega
      rw [e]
      show readIn (126 :: (Lib.itoa u.n ++ r)) = _
      unfold readIn
      show (if _ then _ else _) = _
      rw [if_neg (by decide), if_neg (by decide), if_pos rfl, numTxt_itoa hb.1 hb.2 hr, if_pos ⟨rfl, h2⟩, ← h1]
      rfl
  · have e : u.textIn = 34 :: (quoted u.s.data.toList ++ [34]) := by unfold V.textIn; rw [if_neg (by omega), if_pos h0]
    rw [e]
    show readIn (34 :: (quoted u.s.data.toList ++ [34] ++ r)) = _
    rw [List.append_assoc]
    unfold readIn
    show (if _ then _ else _) = _
    rw [if_pos rfl]
    show (match unq [] (quoted u.s.data.toList ++ 34 :: r) with | none => none | some (t, k) => if flatOk 2 0 ⟨t.toArray⟩ 0 = true then some (V.mk 2 0 ⟨t.toArray⟩ [], k + 1) else none) = _
    rw [unq_quoted, List.nil_append]
    simp only
    rw [text_back, if_pos h2, ← h1]
    simp

theorem textIn_head (u : V) : ∃ c r, u.textIn = c :: r ∧ c ≠ 93 := by
  have hi : ∀ n : Int, ∃ c r, Lib.itoa n = c :: r ∧ c ≠ 93 := by
    intro n
    obtain ⟨c, e1, e2, e3⟩ := @itoa_head n []
    rw [List.append_nil] at e3
    refine ⟨c, _, e3, ?_⟩
    rintro rfl
    rcases e2 with ⟨k, _⟩ | k
    · cases k
    · exact absurd k.2 (by decide)
  unfold V.textIn
  split
  · exact hi _
  · split
    · exact ⟨34, _, rfl, by decide⟩
    · split
      · exact ⟨64, _, rfl, by decide⟩
      · split
        · exact ⟨126, _, rfl, by decide⟩
        · exact ⟨45, [], rfl, by decide⟩

theorem more_head (us : List V) (r : List UInt8) : ∀ c ∈ (moreText us ++ 93 :: r).head?, isDig c = false := by
  intro c hc
  cases us with
  | nil =>
    have : (93 : UInt8) = c := by simpa [moreText] using hc
    rw [← this]; decide
  | cons u us =>
    have : (32 : UInt8) = c := by simpa [moreText] using hc
    rw [← this]; decide

theorem readItems_more : ∀ (us acc : List V) (n : Nat) (r : List UInt8), (∀ u ∈ us, u.flatOk = true) → acc ≠ [] → us.length + 1 ≤ n → acc.length + us.length ≤ 12 →
    readItems n acc (moreText us ++ 93 :: r) = some (acc ++ us, (moreText us).length + 1)
  | [], acc, n, r, _, ha, hn, hl => by
    obtain ⟨m, rfl⟩ : ∃ m, n = m + 1 := ⟨n - 1, by simp at hn; omega⟩
    show readItems (m + 1) acc (93 :: r) = _
    unfold readItems
    show (if _ then _ else _) = _
    rw [if_neg (by simp at hl; omega), if_pos rfl, List.append_nil]
    rfl
  | u :: us, acc, n, r, hu, ha, hn, hl => by
    obtain ⟨m, rfl⟩ : ∃ m, n = m + 1 := ⟨n - 1, by simp at hn; omega⟩
    have e : moreText (u :: us) ++ 93 :: r = 32 :: (u.textIn ++ (moreText us ++ 93 :: r)) := by simp [moreText]
    rw [e]
    unfold readItems
    show (if _ then _ else _) = _
    rw [if_neg (by simp at hl; omega), if_neg (by decide), if_neg ha, if_pos rfl, readIn_text u (hu u (by simp)) _ (more_head us r)]
    simp only
    rw [List.drop_left, readItems_more us (acc ++ [u]) m r (fun v hv => hu v (by simp [hv])) (by simp) (by simp at hn; omega) (by simp at hl ⊢; omega)]
    simp [moreText]
    omega

theorem readItems_all (us : List V) (n : Nat) (r : List UInt8) (hu : ∀ u ∈ us, u.flatOk = true) (hn : us.length + 1 ≤ n) (hl : us.length ≤ 12) :
    readItems n [] (itemsText us ++ 93 :: r) = some (us, (itemsText us).length + 1) := by
  obtain ⟨m, rfl⟩ : ∃ m, n = m + 1 := ⟨n - 1, by omega⟩
  cases us with
  | nil =>
    show readItems (m + 1) [] (93 :: r) = _
    unfold readItems
    show (if _ then _ else _) = _
    rw [if_neg (by decide), if_pos rfl]
    rfl
  | cons u us =>
    have e : itemsText (u :: us) ++ 93 :: r = u.textIn ++ (moreText us ++ 93 :: r) := by simp [itemsText]
    obtain ⟨c, q, h1, h2⟩ := textIn_head u
    have h3 := readIn_text u (hu u (by simp)) _ (more_head us r)
    have h4 : (u.textIn ++ (moreText us ++ 93 :: r)).drop u.textIn.length = moreText us ++ 93 :: r := List.drop_left
    rw [e]
    have e2 : u.textIn ++ (moreText us ++ 93 :: r) = c :: (q ++ (moreText us ++ 93 :: r)) := by rw [h1]; rfl
    rw [e2] at h3 h4 ⊢
    unfold readItems
    show (if _ then _ else _) = _
    rw [if_neg (by decide), if_neg h2, if_pos rfl, h3]
    simp only
    rw [h4, List.nil_append, readItems_more us [u] m r (fun v hv => hu v (by simp [hv])) (by simp) (by simp at hn; omega) (by simp at hl ⊢; omega)]
    simp [itemsText]
    omega

/-- Read undoes Text -/
theorem readV_text (v : V) (h : v.ok = true) (r : List UInt8) (hr : v.k = 5 ∨ ∀ c ∈ r.head?, isDig c = false) : readV (v.text ++ r) = some (v, v.text.length) := by
  unfold readV
  by_cases h5 : v.k = 5
  · obtain ⟨e, hl, hu⟩ := ok_list h h5
    have et : v.text ++ r = 91 :: (itemsText v.l ++ 93 :: r) := by unfold V.text; rw [if_pos h5]; simp
    have hn : numTxt (-1000000000000000) 1000000000000000 (91 :: (itemsText v.l ++ 93 :: r)) = (0, 0, false) := by
      unfold numTxt
      rw [if_neg (by rw [List.head?_cons]; decide)]
      unfold numTail
      have hs : ∀ c ∈ (91 :: (itemsText v.l ++ 93 :: r)).head?, isDig c = false := by
        intro c hc
        have : (91 : UInt8) = c := by simpa using hc
        rw [← this]; decide
      rw [if_neg (by rw [List.head?_cons]; decide), digGo_stop hs]
      rfl
    have hri : readIn (91 :: (itemsText v.l ++ 93 :: r)) = none := by
      unfold readIn
      show (if _ then _ else _) = _
      rw [if_neg (by decide), if_neg (by decide), if_neg (by decide), hn, if_neg (by decide), if_neg (by decide)]
    rw [et, hri]
    simp only
    rw [if_pos List.head?_cons, List.tail_cons, readItems_all v.l 14 r (fun u hu' => (okIn_parts (hu u hu')).2) (by omega) hl]
    simp only [Option.map_some]
    rw [← e]
    unfold V.text
    rw [if_pos h5]
    simp
  · have et : v.text = v.textIn := by unfold V.text; rw [if_neg h5]
    rw [et, readIn_text v (ok_flat h h5) r (hr.resolve_left h5)]
end Go.Proofs.YtmijlcilnaeppaaGreatDoor

/- val.readNum. -/
set_option linter.unusedSimpArgs false
set_option linter.unusedVariables false
namespace Go.Proofs.YtmijlcilnaeppaaGreatDoor
open Go Go.RowKit Go.Shelf

theorem dropAt (s : ByteArray) (j : Nat) (h : j < s.size) : s.data.toList.drop j = s[j] :: s.data.toList.drop (j + 1) := by
  have h' : j < s.data.toList.length := by simpa using h
  rw [List.drop_eq_getElem_cons h']
  rfl
theorem drop_end (s : ByteArray) (j : Nat) (h : s.size ≤ j) : s.data.toList.drop j = [] := List.drop_eq_nil_of_le (by simpa using h)

/-- what readNum answers, from a place on -/
def readNumE (p : Int) (x : Int × Nat × Bool) : Ending := .returned (.tuple #[.int .i64 x.1, .int .i64 (p + (x.2.1 : Nat)), .bool x.2.2])

theorem ret_three {a a' b b' : Int} {c c' : Prop} [Decidable c] [Decidable c'] (h1 : a = a') (h2 : b = b') (h3 : c ↔ c') : Ending.returned (.tuple #[.int .i64 a, .int .i64 b, .bool (decide c)]) = Ending.returned (.tuple #[.int .i64 a', .int .i64 b', .bool (decide c')]) := by
  rw [h1, h2]
  simp only [decide_eq_decide.2 h3]
theorem ret_threeT {a a' b b' : Int} {c' : Prop} [Decidable c'] (h1 : a = a') (h2 : b = b') (h3 : c') : Ending.returned (.tuple #[.int .i64 a, .int .i64 b, .bool true]) = Ending.returned (.tuple #[.int .i64 a', .int .i64 b', .bool (decide c')]) := by
  rw [h1, h2, decide_eq_true h3]
theorem readNumE_none (q : Nat) : Ending.returned (.tuple #[.int .i64 0, .int .i64 (q : Int), .bool false]) = readNumE (q : Nat) (0, 0, false) := by
  unfold readNumE
  simp

set_option maxRecDepth 100000 in
set_option maxHeartbeats 4000000 in
theorem readNum_plus (s : ByteArray) (hs : s.size ≤ 140737488355327) (p : Nat) (hp : p ≤ s.size) (h45 : ∀ (h : p < s.size), (s[p].toNat : Int) ≠ 45) (least most : Int) (hm0 : 0 ≤ most) (hm : most ≤ 1000000000000000) (w : World) :
    Calls Tryz.prog 74 #[.string s, .int .i64 (p : Int), .int .i64 least, .int .i64 most] w fun e w' => e = readNumE (p : Nat) (numTail (1) (most) (s.data.toList.drop (p))) ∧ w = w' := by
  have d0 : ∀ h : p < s.size, ((s[p].toNat : Int) == 45) = false := fun h => by rw [beq_eq_false_iff_ne]; exact h45 h
  clear h45
  by_cases hlt : p < s.size
  · by_cases h48 : (s[p].toNat : Int) = 48
    · have d1 : ((s[p].toNat : Int) == 48) = true := by rw [beq_iff_eq]; exact h48
      have e : s[p] = 48 := UInt8.toNat_inj.1 (by have : (48 : UInt8).toNat = 48 := rfl; omega)
      have hn : numTail (1) (most) (s.data.toList.drop (p)) = (0, 1, decide (0 < (1 : Int))) := by
        unfold numTail
        rw [dropAt s (p) hlt, e, if_pos List.head?_cons]
      rw [hn]
      clear hn e h48
      go_enter Tryz.func74, Tryz.ntmps74
      go_wp2_with fail
      go_ret3
      exact ⟨by unfold readNumE; rfl, rfl⟩
    · have d1 : ((s[p].toNat : Int) == 48) = false := by rw [beq_eq_false_iff_ne]; exact h48
      have hn : numTail (1) (most) (s.data.toList.drop (p)) = ((1) * (digGo (most) 0 (s.data.toList.drop (p))).1, (digGo (most) 0 (s.data.toList.drop (p))).2, decide (0 < (digGo (most) 0 (s.data.toList.drop (p))).2)) := by
        unfold numTail
        rw [if_neg]
        rw [dropAt s (p) hlt, List.head?_cons]
        intro k
        exact h48 (by rw [Option.some.inj k]; rfl)
      rw [hn]
      clear hn h48
      generalize hres : digGo (most) 0 (s.data.toList.drop (p)) = res
      have HRES := Lib.hid hres
      clear hres
      go_enter Tryz.func74, Tryz.ntmps74
      go_wp2_with fail
      go_loopw [1, 12] (fun i n wr => ∃ (j : Nat) (m : Int), p ≤ j ∧ j ≤ s.size ∧ i = .int .i64 (j : Int) ∧ n = .int .i64 m ∧ 0 ≤ m ∧ m ≤ most ∧ ((digGo (most) m (s.data.toList.drop j)).1, (digGo (most) m (s.data.toList.drop j)).2 + (j - (p))) = res ∧ w = wr) (fun i _ _ => s.size - (intOf i).toNat)
      case atStart => exact ⟨p, 0, by omega, by omega, by go_num, rfl, by omega, by omega, by rw [← HRES.out]; simp, rfl⟩
      case round =>
        obtain ⟨j, m, hpj, hj, rfl, rfl, hm1, hm2, hr, rfl⟩ := hrel
        have HR := Lib.hid hr
        clear hr d0 d1
        have hfin : digGo (most) m (s.data.toList.drop j) = (m, 0) → res = (m, j - (p)) := fun h => by rw [← HR.out, h]; simp
        by_cases hjl : j < s.size
        · by_cases hdg : 48 ≤ (s[j].toNat : Int) ∧ (s[j].toNat : Int) ≤ 57
          · have e0 : decide (48 ≤ (s[j].toNat : Int) ∧ (s[j].toNat : Int) ≤ 57) = true := decide_eq_true hdg
            have m1 : IntKind.u8.wrap ((s[j].toNat : Int) - 48) = (s[j].toNat : Int) - 48 := IntWalk.u8_in _ (by omega)
            by_cases hle : m * 10 + ((s[j].toNat : Int) - 48) ≤ most
            · have hn : digGo (most) m (s.data.toList.drop j) = ((digGo (most) (m * 10 + ((s[j].toNat : Int) - 48)) (s.data.toList.drop (j + 1))).1, (digGo (most) (m * 10 + ((s[j].toNat : Int) - 48)) (s.data.toList.drop (j + 1))).2 + 1) := by
                rw [dropAt s j hjl]
                conv => lhs; unfold digGo
                rw [if_pos ⟨e0, hle⟩]
              have hq : ((digGo (most) (m * 10 + ((s[j].toNat : Int) - 48)) (s.data.toList.drop (j + 1))).1, (digGo (most) (m * 10 + ((s[j].toNat : Int) - 48)) (s.data.toList.drop (j + 1))).2 + (j + 1 - (p))) = res := by
                rw [← HR.out, hn]
                simp only [Prod.mk.injEq, true_and]
                omega
              have HQ := Lib.hid hq
              clear hn hq hfin
              go_wp2_with (go_at_call 85; refine (digit_any _ _).mono ?_; rintro e w1 ⟨rfl, rfl⟩)
              exact ⟨⟨j + 1, m * 10 + ((s[j].toNat : Int) - 48), by omega, by omega, by go_num, rfl, by omega, hle, HQ.out, by trivial⟩, by simp [intOf]; omega⟩
            · have hq := hfin (by rw [dropAt s j hjl]; unfold digGo; rw [if_neg (fun h => hle h.2)])
              have HQ := Lib.hid hq
              clear hq hfin
              go_wp2_with (go_at_call 85; refine (digit_any _ _).mono ?_; rintro e w1 ⟨rfl, rfl⟩)
              go_ret3
              exact ⟨by rw [HQ.out]; exact ret_three (by simp) (by simp only; omega) (by simp only; omega), rfl⟩
          · have e0 : decide (48 ≤ (s[j].toNat : Int) ∧ (s[j].toNat : Int) ≤ 57) = false := decide_eq_false hdg
            have hq := hfin (by rw [dropAt s j hjl]; unfold digGo; rw [if_neg (fun h => by have := h.1; unfold isDig at this; rw [e0] at this; cases this)])
            have HQ := Lib.hid hq
            clear hq hfin hdg
            go_wp2_with (go_at_call 85; refine (digit_any _ _).mono ?_; rintro e w1 ⟨rfl, rfl⟩)
            go_ret3
            exact ⟨by rw [HQ.out]; exact ret_three (by simp) (by simp only; omega) (by simp only; omega), rfl⟩
        · obtain rfl : j = s.size := by omega
          have hq := hfin (by rw [drop_end s s.size (Nat.le_refl _)]; rfl)
          have HQ := Lib.hid hq
          clear hq hfin
          go_wp2_with fail
          go_ret3
          exact ⟨by rw [HQ.out]; first | exact ret_threeT (by simp) (by simp only; omega) (by simp only; omega) | exact ret_three (by simp) (by simp only; omega) (by simp only; omega), rfl⟩
  · have hn : numTail (1) (most) (s.data.toList.drop (p)) = (0, 0, false) := by
      unfold numTail
      rw [drop_end s (p) (by omega), if_neg (by simp)]
      rfl
    rw [hn]
    clear hn
    go_enter Tryz.func74, Tryz.ntmps74
    go_wp2_with fail
    go_loopw [1, 12] (fun i n wr => i = .int .i64 ((p : Nat) : Int) ∧ n = .int .i64 0 ∧ w = wr) (fun _ _ _ => 0)
    case atStart => exact ⟨by go_num, rfl, rfl⟩
    case round =>
      obtain ⟨rfl, rfl, rfl⟩ := hrel
      go_wp2_with fail
      go_ret3
      exact ⟨readNumE_none _, rfl⟩

set_option maxRecDepth 100000 in
set_option maxHeartbeats 4000000 in
theorem readNum_minus (s : ByteArray) (hs : s.size ≤ 140737488355327) (p : Nat) (hp : p < s.size) (h45 : (s[p].toNat : Int) = 45) (least most : Int) (hm0 : least ≤ 0) (hm : -1000000000000000 ≤ least) (w : World) :
    Calls Tryz.prog 74 #[.string s, .int .i64 (p : Int), .int .i64 least, .int .i64 most] w fun e w' => e = readNumE (p + 1 : Nat) (numTail (-1) (-least) (s.data.toList.drop (p + 1))) ∧ w = w' := by
  have d0 : ((s[p].toNat : Int) == 45) = true := by rw [beq_iff_eq]; exact h45
  clear h45
  by_cases hlt : p + 1 < s.size
  · by_cases h48 : (s[p + 1].toNat : Int) = 48
    · have d1 : ((s[p + 1].toNat : Int) == 48) = true := by rw [beq_iff_eq]; exact h48
      have e : s[p + 1] = 48 := UInt8.toNat_inj.1 (by have : (48 : UInt8).toNat = 48 := rfl; omega)
      have hn : numTail (-1) (-least) (s.data.toList.drop (p + 1)) = (0, 1, decide (0 < (-1 : Int))) := by
        unfold numTail
        rw [dropAt s (p + 1) hlt, e, if_pos List.head?_cons]
      rw [hn]
      clear hn e h48
      go_enter Tryz.func74, Tryz.ntmps74
      go_wp2_with fail
      go_ret3
      exact ⟨by unfold readNumE; rfl, rfl⟩
    · have d1 : ((s[p + 1].toNat : Int) == 48) = false := by rw [beq_eq_false_iff_ne]; exact h48
      have hn : numTail (-1) (-least) (s.data.toList.drop (p + 1)) = ((-1) * (digGo (-least) 0 (s.data.toList.drop (p + 1))).1, (digGo (-least) 0 (s.data.toList.drop (p + 1))).2, decide (0 < (digGo (-least) 0 (s.data.toList.drop (p + 1))).2)) := by
        unfold numTail
        rw [if_neg]
        rw [dropAt s (p + 1) hlt, List.head?_cons]
        intro k
        exact h48 (by rw [Option.some.inj k]; rfl)
      rw [hn]
      clear hn h48
      generalize hres : digGo (-least) 0 (s.data.toList.drop (p + 1)) = res
      have HRES := Lib.hid hres
      clear hres
      go_enter Tryz.func74, Tryz.ntmps74
      go_wp2_with fail
      go_loopw [1, 12] (fun i n wr => ∃ (j : Nat) (m : Int), p + 1 ≤ j ∧ j ≤ s.size ∧ i = .int .i64 (j : Int) ∧ n = .int .i64 m ∧ 0 ≤ m ∧ m ≤ -least ∧ ((digGo (-least) m (s.data.toList.drop j)).1, (digGo (-least) m (s.data.toList.drop j)).2 + (j - (p + 1))) = res ∧ w = wr) (fun i _ _ => s.size - (intOf i).toNat)
      case atStart => exact ⟨p + 1, 0, by omega, by omega, by go_num, rfl, by omega, by omega, by rw [← HRES.out]; simp, rfl⟩
      case round =>
        obtain ⟨j, m, hpj, hj, rfl, rfl, hm1, hm2, hr, rfl⟩ := hrel
        have HR := Lib.hid hr
        clear hr d0 d1
        have hfin : digGo (-least) m (s.data.toList.drop j) = (m, 0) → res = (m, j - (p + 1)) := fun h => by rw [← HR.out, h]; simp
        by_cases hjl : j < s.size
        · by_cases hdg : 48 ≤ (s[j].toNat : Int) ∧ (s[j].toNat : Int) ≤ 57
          · have e0 : decide (48 ≤ (s[j].toNat : Int) ∧ (s[j].toNat : Int) ≤ 57) = true := decide_eq_true hdg
            have m1 : IntKind.u8.wrap ((s[j].toNat : Int) - 48) = (s[j].toNat : Int) - 48 := IntWalk.u8_in _ (by omega)
            by_cases hle : m * 10 + ((s[j].toNat : Int) - 48) ≤ -least
            · have hn : digGo (-least) m (s.data.toList.drop j) = ((digGo (-least) (m * 10 + ((s[j].toNat : Int) - 48)) (s.data.toList.drop (j + 1))).1, (digGo (-least) (m * 10 + ((s[j].toNat : Int) - 48)) (s.data.toList.drop (j + 1))).2 + 1) := by
                rw [dropAt s j hjl]
                conv => lhs; unfold digGo
                rw [if_pos ⟨e0, hle⟩]
              have hq : ((digGo (-least) (m * 10 + ((s[j].toNat : Int) - 48)) (s.data.toList.drop (j + 1))).1, (digGo (-least) (m * 10 + ((s[j].toNat : Int) - 48)) (s.data.toList.drop (j + 1))).2 + (j + 1 - (p + 1))) = res := by
                rw [← HR.out, hn]
                simp only [Prod.mk.injEq, true_and]
                omega
              have HQ := Lib.hid hq
              clear hn hq hfin
              go_wp2_with (go_at_call 85; refine (digit_any _ _).mono ?_; rintro e w1 ⟨rfl, rfl⟩)
              exact ⟨⟨j + 1, m * 10 + ((s[j].toNat : Int) - 48), by omega, by omega, by go_num, rfl, by omega, hle, HQ.out, by trivial⟩, by simp [intOf]; omega⟩
            · have hq := hfin (by rw [dropAt s j hjl]; unfold digGo; rw [if_neg (fun h => hle h.2)])
              have HQ := Lib.hid hq
              clear hq hfin
              go_wp2_with (go_at_call 85; refine (digit_any _ _).mono ?_; rintro e w1 ⟨rfl, rfl⟩)
              go_ret3
              exact ⟨by rw [HQ.out]; exact ret_three (by simp) (by simp only; omega) (by simp only; omega), rfl⟩
          · have e0 : decide (48 ≤ (s[j].toNat : Int) ∧ (s[j].toNat : Int) ≤ 57) = false := decide_eq_false hdg
            have hq := hfin (by rw [dropAt s j hjl]; unfold digGo; rw [if_neg (fun h => by have := h.1; unfold isDig at this; rw [e0] at this; cases this)])
            have HQ := Lib.hid hq
            clear hq hfin hdg
            go_wp2_with (go_at_call 85; refine (digit_any _ _).mono ?_; rintro e w1 ⟨rfl, rfl⟩)
            go_ret3
            exact ⟨by rw [HQ.out]; exact ret_three (by simp) (by simp only; omega) (by simp only; omega), rfl⟩
        · obtain rfl : j = s.size := by omega
          have hq := hfin (by rw [drop_end s s.size (Nat.le_refl _)]; rfl)
          have HQ := Lib.hid hq
          clear hq hfin
          go_wp2_with fail
          go_ret3
          exact ⟨by rw [HQ.out]; first | exact ret_threeT (by simp) (by simp only; omega) (by simp only; omega) | exact ret_three (by simp) (by simp only; omega) (by simp only; omega), rfl⟩
  · have hn : numTail (-1) (-least) (s.data.toList.drop (p + 1)) = (0, 0, false) := by
      unfold numTail
      rw [drop_end s (p + 1) (by omega), if_neg (by simp)]
      rfl
    rw [hn]
    clear hn
    go_enter Tryz.func74, Tryz.ntmps74
    go_wp2_with fail
    go_loopw [1, 12] (fun i n wr => i = .int .i64 ((p + 1 : Nat) : Int) ∧ n = .int .i64 0 ∧ w = wr) (fun _ _ _ => 0)
    case atStart => exact ⟨by go_num, rfl, rfl⟩
    case round =>
      obtain ⟨rfl, rfl, rfl⟩ := hrel
      go_wp2_with fail
      go_ret3
      exact ⟨readNumE_none _, rfl⟩

theorem head_at (s : ByteArray) (p : Nat) (h : p < s.size) (c : UInt8) : ((s.data.toList.drop p).head? = some c) ↔ (s[p].toNat : Int) = (c.toNat : Int) := by
  rw [dropAt s p h, List.head?_cons]
  constructor
  · intro k; rw [Option.some.inj k]
  · intro k
    have h2 : s[p].toNat = c.toNat := by omega
    rw [UInt8.toNat_inj.1 h2]
/-- val.readNum, at any place within a text -/
theorem readNum_txt (s : ByteArray) (hs : s.size ≤ 140737488355327) (p : Nat) (hp : p ≤ s.size) (least most : Int) (h0 : least ≤ 0) (h1 : -1000000000000000 ≤ least) (h2 : 0 ≤ most) (h3 : most ≤ 1000000000000000) (w : World) :
    Calls Tryz.prog 74 #[.string s, .int .i64 (p : Int), .int .i64 least, .int .i64 most] w fun e w' => e = readNumE (p : Nat) (numTxt least most (s.data.toList.drop p)) ∧ w = w' := by
  unfold numTxt
  by_cases hlt : p < s.size
  · by_cases h : (s[p].toNat : Int) = 45
    · rw [if_pos ((head_at s p hlt 45).2 h)]
      refine (readNum_minus s hs p hlt h least most h0 h1 w).mono ?_
      rintro e w' ⟨rfl, rfl⟩
      refine ⟨?_, rfl⟩
      unfold readNumE
      rw [dropAt s p hlt, List.tail_cons]
      have : ((p + 1 : Nat) : Int) + ((numTail (-1) (-least) (s.data.toList.drop (p + 1))).2.1 : Nat) = (p : Int) + (((numTail (-1) (-least) (s.data.toList.drop (p + 1))).2.1 + 1 : Nat) : Int) := by omega
      rw [this]
    · rw [if_neg (fun k => h ((head_at s p hlt 45).1 k))]
      exact readNum_plus s hs p hp (fun _ => h) least most h2 h3 w
  · rw [if_neg (by rw [drop_end s p (by omega)]; simp)]
    exact readNum_plus s hs p hp (fun k => absurd k hlt) least most h2 h3 w
end Go.Proofs.YtmijlcilnaeppaaGreatDoor

/- Rows that are owned, side by side: of unlike element types, of any sizes. -/
set_option linter.unusedSimpArgs false
set_option linter.unusedVariables false
namespace Go.Proofs.YtmijlcilnaeppaaGreatDoor
open Go Go.RowKit

theorem owned_unlike {W : World} {base base' size size' : Nat} {e e' : TypeId} {v v' : Value} {n n' : Nat} {xs xs' : List Value} (he : e ≠ e') (h : W.ownsRow base e size v n xs) (h' : W.ownsRow base' e' size' v' n' xs') (hv : v.ownBlock ≠ none) : v.ownBlock ≠ v'.ownBlock := by
  rcases h.2 with ⟨rfl, _⟩ | ⟨g, cap, cur, rfl, _, hg, _⟩
  · exact (hv rfl).elim
  · rcases h'.2 with ⟨rfl, _⟩ | ⟨g', cap', cur', rfl, _, hg', _⟩
    · simp [Value.ownBlock]
    · intro hc
      have : g = g' := by simpa [Value.ownBlock] using hc
      subst this
      rw [hg] at hg'
      have := congrArg (fun o => match o with | some (Obj.cells _ t _) => t | _ => 0) hg'
      exact he (by simpa using this)
theorem owned_apart {W W' : World} {base base' size size' : Nat} {e e' : TypeId} {v v' : Value} {n n' : Nat} {xs xs' : List Value} (he : e ≠ e') (h : W.ownsRow base e size v n xs) (h' : W.ownsRow base' e' size' v' n' xs') (hg : W.grownBy W' v'.ownBlock) : W'.ownsRow base e size v n xs :=
  h.kept hg (by
    by_cases hv : v.ownBlock = none
    · exact .inl hv
    · exact .inr (owned_unlike he h h' hv))
theorem owned_below {W W' : World} {base : Nat} {e : TypeId} {size n : Nat} {v : Value} {xs : List Value} (h : W.ownsRow base e size v n xs) (hb : Below W.heap.size W W') : W'.ownsRow base e size v n xs :=
  h.kept (show W.grownBy W' none from ⟨hb.os, hb.tape, hb.output, hb.size, fun k hk _ => hb.block k hk⟩) (by cases v.ownBlock <;> simp)
/-- the cells of a row, at its block -/
theorem owned_cell {W : World} {base g n cap size : Nat} {e : TypeId} {xs : List Value} (h : W.ownsRow base e size (.slice (some ⟨g, 0, none⟩) n cap) n xs) (j : Nat) (u : Value) (hu : xs[j]? = some u) : W.cell? ⟨g, j, none⟩ = some u := by
  have := h.cells (g := g) rfl j u hu
  rwa [show (⟨g, 0, none⟩ : Addr).add j = ⟨g, j, none⟩ from by unfold Addr.add; split <;> simp_all] at this
theorem owned_base {W : World} {b b' : Nat} {e : TypeId} {size n : Nat} {v : Value} {xs : List Value} (h : W.ownsRow b e size v n xs) (hb : b' ≤ b) : W.ownsRow b' e size v n xs :=
  ⟨h.1, h.2.elim .inl (fun ⟨g, cap, cur, hv, hg, r⟩ => .inr ⟨g, cap, cur, hv, Nat.le_trans hb hg, r⟩)⟩
def ints (l : List Nat) : List Value := l.map fun k : Nat => Value.int .i64 (k : Int)
end Go.Proofs.YtmijlcilnaeppaaGreatDoor

/- words.Unquote. -/
set_option linter.unusedSimpArgs false
set_option linter.unusedVariables false
namespace Go.Proofs.YtmijlcilnaeppaaGreatDoor
open Go Go.RowKit Go.Shelf

/-- what Unquote answers, of a quote's place -/
def unqPost (r : Option (List UInt8 × Nat)) (W : World) (e : Ending) (W' : World) : Prop :=
  Below W.heap.size W W' ∧ match r with
    | none => e = .returned (.tuple #[.string ⟨#[]⟩, .int .i64 0, .bool false])
    | some (t, k) => e = .returned (.tuple #[.string ⟨t.toArray⟩, .int .i64 (k : Int), .bool true])

theorem drop_at (s : ByteArray) (j : Nat) (h : j < s.size) : s.data.toList.drop j = s[j] :: s.data.toList.drop (j + 1) := by
  have h' : j < s.data.toList.length := by simpa using h
  rw [List.drop_eq_getElem_cons h']
  rfl
def unqAt (s : ByteArray) (j : Nat) (acc : List UInt8) : Option (List UInt8 × Nat) := (unq acc (s.data.toList.drop j)).map (fun x => (x.1, x.2 + j))
theorem unqAt_end (s : ByteArray) (acc : List UInt8) : unqAt s s.size acc = none := by
  unfold unqAt
  rw [List.drop_eq_nil_of_le (by simp)]
  rfl
theorem unqAt_quote (s : ByteArray) (j : Nat) (h : j < s.size) (acc : List UInt8) (hc : (s[j].toNat : Int) = 34) : unqAt s j acc = some (acc, 1 + j) := by
  have e : s[j] = 34 := UInt8.toNat_inj.1 (by have : (34 : UInt8).toNat = 34 := rfl; omega)
  unfold unqAt
  rw [drop_at s j h, e]
  unfold unq
  rw [if_pos rfl]; rfl
theorem unqAt_back_end (s : ByteArray) (j : Nat) (h : j < s.size) (acc : List UInt8) (hc : (s[j].toNat : Int) = 92) (hj : j + 1 = s.size) : unqAt s j acc = none := by
  have e : s[j] = 92 := UInt8.toNat_inj.1 (by have : (92 : UInt8).toNat = 92 := rfl; omega)
  unfold unqAt
  rw [drop_at s j h, e, List.drop_eq_nil_of_le (by simp; omega)]
  unfold unq
  rw [if_neg (by decide), if_pos rfl]; rfl
theorem unqAt_back_bad (s : ByteArray) (j : Nat) (h : j < s.size) (acc : List UInt8) (hc : (s[j].toNat : Int) = 92) (hj : j + 1 < s.size) (h1 : (s[j + 1].toNat : Int) ≠ 34) (h2 : (s[j + 1].toNat : Int) ≠ 92) : unqAt s j acc = none := by
  have e : s[j] = 92 := UInt8.toNat_inj.1 (by have : (92 : UInt8).toNat = 92 := rfl; omega)
  unfold unqAt
  rw [drop_at s j h, drop_at s (j + 1) hj, e]
  unfold unq
  rw [if_neg (by decide), if_pos rfl]
  simp only
  rw [if_neg (by rintro (k | k) <;> rw [k] at h1 h2 <;> first | exact h1 rfl | exact h2 rfl)]; rfl
theorem unqAt_back (s : ByteArray) (j : Nat) (h : j < s.size) (acc : List UInt8) (hc : (s[j].toNat : Int) = 92) (hj : j + 1 < s.size) (h1 : (s[j + 1].toNat : Int) = 34 ∨ (s[j + 1].toNat : Int) = 92) : unqAt s j acc = unqAt s (j + 2) (acc ++ [s[j + 1]]) := by
  have e : s[j] = 92 := UInt8.toNat_inj.1 (by have : (92 : UInt8).toNat = 92 := rfl; omega)
  have e2 : s[j + 1] = 34 ∨ s[j + 1] = 92 := h1.imp (fun k => UInt8.toNat_inj.1 (by have : (34 : UInt8).toNat = 34 := rfl; omega)) (fun k => UInt8.toNat_inj.1 (by have : (92 : UInt8).toNat = 92 := rfl; omega))
  unfold unqAt
  rw [drop_at s j h, drop_at s (j + 1) hj, e]
  conv => lhs; unfold unq
  rw [if_neg (by decide), if_pos rfl]
  simp only
  rw [if_pos e2, Option.map_map]
  congr 1
  funext x
  simp; omega
theorem unqAt_plain (s : ByteArray) (j : Nat) (h : j < s.size) (acc : List UInt8) (h1 : (s[j].toNat : Int) ≠ 34) (h2 : (s[j].toNat : Int) ≠ 92) : unqAt s j acc = unqAt s (j + 1) (acc ++ [s[j]]) := by
  unfold unqAt
  rw [drop_at s j h]
  conv => lhs; unfold unq
  rw [if_neg (fun k => h1 (by rw [k]; rfl)), if_neg (fun k => h2 (by rw [k]; rfl)), Option.map_map]
  congr 1
  funext x
  simp; omega

theorem bytes_string (W : World) (base : Nat) (v : Value) (acc : List UInt8) (h : W.ownsRow base 5 1 v acc.length (acc.map u8v)) : (convert 54 9 v).run Tryz.prog W = .ok (.string ⟨acc.toArray⟩) W := by
  rcases List.eq_nil_or_concat acc with rfl | ⟨p, c, hp⟩
  · rcases h.2 with ⟨rfl, _⟩ | ⟨g, cap, _, hv, _⟩
    · exact Lib.run_convert_nil_bytes W 54 9 5 0 Tryz.underlying54 Tryz.underlying5 Tryz.underlying9
    · rw [hv]
      exact run_convert_bytes_back (P := Tryz.prog) W 54 9 5 ⟨g, 0, none⟩ cap [] Tryz.underlying54 Tryz.underlying5 Tryz.underlying9 (fun j hj => absurd hj (by simp))
  · rw [List.concat_eq_append] at hp
    have hl : acc.length = p.length + 1 := by rw [hp]; simp
    rw [hl] at h
    obtain ⟨g, cap, rfl⟩ := ownsRow_succ h
    have := run_convert_bytes_back (P := Tryz.prog) W 54 9 5 ⟨g, 0, none⟩ cap acc Tryz.underlying54 Tryz.underlying5 Tryz.underlying9 (fun j hj => by
      have hcj := h.cells (g := g) rfl j (u8v acc[j]) (by rw [List.getElem?_map, List.getElem?_eq_getElem hj]; rfl)
      exact hcj)
    rw [hl] at this
    exact this

set_option maxRecDepth 100000 in
set_option maxHeartbeats 4000000 in
theorem unquote_at (s : ByteArray) (hs : s.size ≤ 140737488355327) (p : Nat) (hp : p < s.size) (hc : (s[p].toNat : Int) = 34) (w : World) :
    Calls Tryz.prog 73 #[.string s, .int .i64 (p : Int)] w (unqPost (unqAt s (p + 1) []) w) := by
  obtain ⟨i0, hi, hz0, hz1, hz2⟩ := info_parts infoU8
  generalize hr : unqAt s (p + 1) [] = r
  have HR := Lib.hid hr
  clear hr
  have d0 : ((s[p].toNat : Int) == 34) = true := by rw [beq_iff_eq]; exact hc
  have d0n : ((s[p].toNat : Int) != 34) = false := by rw [bne_eq_false_iff_eq]; exact hc
  have d00 : decide ((p : Int) < 0) = false := decide_eq_false (by omega)
  have d01 : decide (s.size ≤ p) = false := decide_eq_false (by omega)
  have d02 : decide ((s.size : Int) ≤ (p : Int)) = false := decide_eq_false (by omega)
  clear hc
  go_enter Tryz.func73, Tryz.ntmps73
  go_wp2_with fail
  go_loopw [7, 8] (fun v i wr => ∃ (acc : List UInt8) (j : Nat), j ≤ s.size ∧ i = .int .i64 (j : Int) ∧ acc.length ≤ j ∧ unqAt s j acc = r ∧ wr.ownsRow w.heap.size 5 1 v acc.length (acc.map u8v) ∧ Below w.heap.size w wr) (fun _ i _ => s.size - (intOf i).toNat)
  case atStart => exact ⟨[], p + 1, by omega, by go_num, by simp, HR.out, World.ownsRow_nil _ _ _ _, Below.refl _ _⟩
  case round =>
    obtain ⟨acc, j, hj, rfl, hal, hu, hown, hB⟩ := hrel
    have HU := Lib.hid hu
    have hz := hB.size
    clear hu d0 d0n
    by_cases hlt : j < s.size
    · by_cases h34 : (s[j].toNat : Int) = 34
      · have d1 : ((s[j].toNat : Int) == 34) = true := by rw [beq_iff_eq]; exact h34
        have hq := unqAt_quote s j hlt acc h34
        rw [HU.out] at hq
        have HQ := Lib.hid hq
        have hconv := bytes_string _ _ _ acc hown
        clear hq h34
        go_wp2_with fail
        go_ret3
        refine ⟨hB, ?_⟩
        rw [HQ.out]
        show _ = Ending.returned (.tuple #[.string ⟨acc.toArray⟩, .int .i64 ((1 + j : Nat) : Int), .bool true])
        rw [show ((1 + j : Nat) : Int) = (j : Int) + 1 from by omega]
        rfl
      · have d1 : ((s[j].toNat : Int) == 34) = false := by rw [beq_eq_false_iff_ne]; exact h34
        by_cases h92 : (s[j].toNat : Int) = 92
        · have d2 : ((s[j].toNat : Int) == 92) = true := by rw [beq_iff_eq]; exact h92
          by_cases hj1 : j + 1 < s.size
          · have d3 : (((j : Int) + 1) == (s.size : Int)) = false := by rw [beq_eq_false_iff_ne]; omega
            have hj1' : (j : Int) + 1 < (s.size : Int) := by omega
            by_cases e1 : (s[j + 1].toNat : Int) = 34
            · have d4 : ((s[j + 1].toNat : Int) != 34) = false := by rw [bne_eq_false_iff_eq]; exact e1
              have hq := unqAt_back s j hlt acc h92 hj1 (.inl e1)
              rw [HU.out] at hq
              have HQ := Lib.hid hq
              clear hq h92 h34 e1
              go_wp2_with (at_builtin;  refine wpList_append_own _ rfl _ _ 54 rfl w.heap.size 5 i0 (.int .u8 0) 1 1 Tryz.underlying54 hi hz0 hz1 hz2 rfl (by decide) _ _ _ rfl (hown.alloc _) ⟨wr.heap.size, 0, none⟩ 1 1 [.int .u8 (s[j + 1].toNat : Int)] rfl rfl (cell_one_new _ _ _) (by simp [Value.oneCell']) (by simp [maxLen]; omega) (by omega) (by simp; omega) ?_; intro v' w2 hown1 hgrow _)
              have hB1 : Below w.heap.size w w2 := (hB.alloc hz _).grown hgrow (by simp; omega) (fun g hg => (hown.lt g hg).1)
              have hown3 : w2.ownsRow w.heap.size 5 1 v' (acc ++ [s[j + 1]]).length ((acc ++ [s[j + 1]]).map u8v) := by
                rw [List.map_append, List.length_append]
                exact hown1
              exact ⟨⟨acc ++ [s[j + 1]], j + 2, by omega, by go_num, by simp; omega, HQ.out.symm, hown3, hB1⟩, by simp [intOf]; omega⟩
            · have d4 : ((s[j + 1].toNat : Int) != 34) = true := by rw [bne_iff_ne]; exact e1
              by_cases e2 : (s[j + 1].toNat : Int) = 92
              · have d5 : ((s[j + 1].toNat : Int) != 92) = false := by rw [bne_eq_false_iff_eq]; exact e2
                have hq := unqAt_back s j hlt acc h92 hj1 (.inr e2)
                rw [HU.out] at hq
                have HQ := Lib.hid hq
                clear hq h92 h34 e1 e2
                go_wp2_with (at_builtin; refine wpList_append_own _ rfl _ _ 54 rfl w.heap.size 5 i0 (.int .u8 0) 1 1 Tryz.underlying54 hi hz0 hz1 hz2 rfl (by decide) _ _ _ rfl (hown.alloc _) ⟨wr.heap.size, 0, none⟩ 1 1 [.int .u8 (s[j + 1].toNat : Int)] rfl rfl (cell_one_new _ _ _) (by simp [Value.oneCell']) (by simp [maxLen]; omega) (by omega) (by simp; omega) ?_; intro v' w2 hown1 hgrow _)
                have hB1 : Below w.heap.size w w2 := (hB.alloc hz _).grown hgrow (by simp; omega) (fun g hg => (hown.lt g hg).1)
                have hown3 : w2.ownsRow w.heap.size 5 1 v' (acc ++ [s[j + 1]]).length ((acc ++ [s[j + 1]]).map u8v) := by
                  rw [List.map_append, List.length_append]
                  exact hown1
                exact ⟨⟨acc ++ [s[j + 1]], j + 2, by omega, by go_num, by simp; omega, HQ.out.symm, hown3, hB1⟩, by simp [intOf]; omega⟩
              · have d5 : ((s[j + 1].toNat : Int) != 92) = true := by rw [bne_iff_ne]; exact e2
                have hq := unqAt_back_bad s j hlt acc h92 hj1 e1 e2
                rw [HU.out] at hq
                have HQ := Lib.hid hq
                clear hq h92 h34 e1 e2
                go_wp2_with fail
                go_ret3
                refine ⟨hB, ?_⟩
                rw [HQ.out]
                rfl
          · have hj2 : j + 1 = s.size := by omega
            have d3 : (((j : Int) + 1) == (s.size : Int)) = true := by rw [beq_iff_eq]; omega
            have hq := unqAt_back_end s j hlt acc h92 hj2
            rw [HU.out] at hq
            have HQ := Lib.hid hq
            clear hq h92 h34 hj2
            go_wp2_with fail
            go_ret3
            refine ⟨hB, ?_⟩
            rw [HQ.out]
            rfl
        · have d2 : ((s[j].toNat : Int) == 92) = false := by rw [beq_eq_false_iff_ne]; exact h92
          have hq := unqAt_plain s j hlt acc h34 h92
          rw [HU.out] at hq
          have HQ := Lib.hid hq
          clear hq h92 h34
          go_wp2_with (at_builtin; refine wpList_append_own _ rfl _ _ 54 rfl w.heap.size 5 i0 (.int .u8 0) 1 1 Tryz.underlying54 hi hz0 hz1 hz2 rfl (by decide) _ _ _ rfl (hown.alloc _) ⟨wr.heap.size, 0, none⟩ 1 1 [.int .u8 (s[j].toNat : Int)] rfl rfl (cell_one_new _ _ _) (by simp [Value.oneCell']) (by simp [maxLen]; omega) (by omega) (by simp; omega) ?_; intro v' w2 hown1 hgrow _)
          have hB1 : Below w.heap.size w w2 := (hB.alloc hz _).grown hgrow (by simp; omega) (fun g hg => (hown.lt g hg).1)
          have hown3 : w2.ownsRow w.heap.size 5 1 v' (acc ++ [s[j]]).length ((acc ++ [s[j]]).map u8v) := by
            rw [List.map_append, List.length_append]
            exact hown1
          exact ⟨⟨acc ++ [s[j]], j + 1, by omega, by go_num, by simp; omega, HQ.out.symm, hown3, hB1⟩, by simp [intOf]; omega⟩
    · obtain rfl : j = s.size := by omega
      have hq := unqAt_end s acc
      rw [HU.out] at hq
      have HQ := Lib.hid hq
      clear hq
      go_wp2_with fail
      go_ret3
      refine ⟨hB, ?_⟩
      rw [HQ.out]
      rfl
end Go.Proofs.YtmijlcilnaeppaaGreatDoor

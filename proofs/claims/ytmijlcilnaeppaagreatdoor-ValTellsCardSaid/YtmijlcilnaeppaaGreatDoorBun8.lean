/- Texts put together: ValOrd, ValRaw, DecNum. -/
import Derived.Test.YtmijlcilnaeppaaGreatDoorBun5
import Derived.Test.YtmijlcilnaeppaaGreatDoorBun6
import Derived.Test.YtmijlcilnaeppaaGreatDoorBun2
/- Values stand in one order. -/
set_option linter.unusedSimpArgs false
set_option linter.unusedVariables false
namespace Go.Proofs.YtmijlcilnaeppaaGreatDoor
open Go Go.RowKit Go.Shelf

/-- a way to compare that is one order -/
structure IsOrd {α : Type} (f : α → α → Int) : Prop where
  lo : ∀ a b, -1 ≤ f a b
  hi : ∀ a b, f a b ≤ 1
  anti : ∀ a b, f a b = - f b a
  trans : ∀ a b c, f a b ≤ 0 → f b c ≤ 0 → f a c ≤ 0
theorem IsOrd.self {α : Type} {f : α → α → Int} (h : IsOrd f) (a : α) : f a a = 0 := by have := h.anti a a; omega
theorem IsOrd.left {α : Type} {f : α → α → Int} (h : IsOrd f) {a b : α} (hz : f a b = 0) (c : α) : f a c = f b c := by
  have h1 := h.trans a b c
  have h2 := h.trans b a c
  have h3 := h.anti b a
  have h4 := h.trans c b a
  have h5 := h.trans c a b
  have h6 := h.anti c a
  have h7 := h.anti c b
  have h8 := h.lo a c
  have h9 := h.hi a c
  have g8 := h.lo b c
  have g9 := h.hi b c
  have e1 : f a c ≤ 0 ↔ f b c ≤ 0 := ⟨fun k => h2 (by omega) k, fun k => h1 (by omega) k⟩
  have e2 : f c a ≤ 0 ↔ f c b ≤ 0 := ⟨fun k => h5 k (by omega), fun k => h4 k (by omega)⟩
  omega
theorem IsOrd.right {α : Type} {f : α → α → Int} (h : IsOrd f) {b c : α} (hz : f b c = 0) (a : α) : f a b = f a c := by
  have := h.left hz a
  have h1 := h.anti a b
  have h2 := h.anti a c
  omega
def lex2 {α : Type} (f g : α → α → Int) (a b : α) : Int := if f a b = 0 then g a b else f a b
theorem IsOrd.lex {α : Type} {f g : α → α → Int} (hf : IsOrd f) (hg : IsOrd g) : IsOrd (lex2 f g) where
  lo a b := by unfold lex2; split; exact hg.lo a b; exact hf.lo a b
  hi a b := by unfold lex2; split; exact hg.hi a b; exact hf.hi a b
  anti a b := by
    have h1 := hf.anti a b
    have h2 := hg.anti a b
    unfold lex2
    by_cases h : f a b = 0
    · rw [if_pos h, if_pos (by omega)]; exact h2
    · rw [if_neg h, if_neg (by omega)]; exact h1
  trans a b c := by
    have lo1 := hf.lo a b
    have lo2 := hf.lo b c
    have lo3 := hf.lo a c
    unfold lex2
    by_cases h : f a b = 0
    · have e := hf.left h c
      by_cases h' : f b c = 0
      · rw [if_pos h, if_pos h', if_pos (by omega)]; exact hg.trans a b c
      · rw [if_neg h', if_neg (show ¬ f a c = 0 by omega)]; intro _ k; omega
    · rw [if_neg h]
      by_cases h' : f b c = 0
      · have e := hf.right h' a
        rw [if_neg (show ¬ f a c = 0 by omega)]; intro k _; omega
      · rw [if_neg h']
        intro k k'
        have t := hf.trans a b c k k'
        by_cases h'' : f a c = 0
        · have e := hf.left h'' b
          have := hf.anti c b
          omega
        · rw [if_neg h'']; exact t
theorem IsOrd.by {α β : Type} {f : α → α → Int} (h : IsOrd f) (p : β → α) : IsOrd (fun a b => f (p a) (p b)) :=
  ⟨fun a b => h.lo _ _, fun a b => h.hi _ _, fun a b => h.anti _ _, fun a b c => h.trans _ _ _⟩
theorem isOrd_none {α : Type} : IsOrd (fun (_ _ : α) => (0 : Int)) := ⟨fun _ _ => by decide, fun _ _ => by decide, fun _ _ => rfl, fun _ _ _ _ _ => by decide⟩
theorem isOrd_int : IsOrd ordI := by
  constructor
  · intro a b; unfold ordI; split; omega; split <;> omega
  · intro a b; unfold ordI; split; omega; split <;> omega
  · intro a b; unfold ordI; repeat' split
    all_goals omega
  · intro a b c; unfold ordI; repeat' split
    all_goals omega
def lexL {α : Type} (f : α → α → Int) : List α → List α → Int
  | [], [] => 0
  | [], _ :: _ => -1
  | _ :: _, [] => 1
  | x :: xs, y :: ys => if f x y = 0 then lexL f xs ys else f x y
theorem IsOrd.list {α : Type} {f : α → α → Int} (h : IsOrd f) : IsOrd (lexL f) where
  lo a := by
    induction a with
    | nil => intro b; cases b <;> simp [lexL]
    | cons x xs ih => intro b; cases b with
      | nil => simp [lexL]
      | cons y ys => unfold lexL; split; exact ih ys; exact h.lo x y
  hi a := by
    induction a with
    | nil => intro b; cases b <;> simp [lexL]
    | cons x xs ih => intro b; cases b with
      | nil => simp [lexL]
      | cons y ys => unfold lexL; split; exact ih ys; exact h.hi x y
  anti a := by
    induction a with
    | nil => intro b; cases b <;> simp [lexL]
    | cons x xs ih => intro b; cases b with
      | nil => simp [lexL]
      | cons y ys =>
        have e := h.anti x y
        unfold lexL
        by_cases hz : f x y = 0
        · rw [if_pos hz, if_pos (by omega)]; exact ih ys
        · rw [if_neg hz, if_neg (by omega)]; exact e
  trans a := by
    induction a with
    | nil => intro b c; cases c <;> cases b <;> simp [lexL]
    | cons x xs ih =>
      intro b c
      cases b with
      | nil => simp [lexL]
      | cons y ys =>
        cases c with
        | nil => simp [lexL]
        | cons z zs =>
          have lo1 := h.lo x y
          have lo2 := h.lo y z
          have lo3 := h.lo x z
          unfold lexL
          by_cases h1 : f x y = 0
          · have e := h.left h1 z
            by_cases h2 : f y z = 0
            · rw [if_pos h1, if_pos h2, if_pos (by omega)]; exact ih ys zs
            · rw [if_neg h2, if_neg (show ¬ f x z = 0 by omega)]; intro _ k; omega
          · rw [if_neg h1]
            by_cases h2 : f y z = 0
            · have e := h.right h2 x
              rw [if_neg (show ¬ f x z = 0 by omega)]; intro k _; omega
            · rw [if_neg h2]
              intro k k'
              have t := h.trans x y z k k'
              by_cases h3 : f x z = 0
              · have e := h.left h3 y
                have := h.anti z y
                omega
              · rw [if_neg h3]; exact t

theorem cmpL_lex (f : V → V → Int) : ∀ a b, cmpL f a b = lexL f a b
  | [], [] => rfl
  | [], _ :: _ => rfl
  | _ :: _, [] => rfl
  | x :: xs, y :: ys => by show (if f x y = 0 then cmpL f xs ys else f x y) = (if f x y = 0 then lexL f xs ys else f x y); rw [cmpL_lex f xs ys]

theorem ordS_lex : ∀ (a b : List UInt8), (if Op.bytesLess a b = true then (-1 : Int) else if (a == b) = true then 0 else 1) = lexL (fun x y => ordI (UInt8.toNat x) (UInt8.toNat y)) a b
  | [], [] => rfl
  | [], _ :: _ => rfl
  | _ :: _, [] => rfl
  | x :: xs, y :: ys => by
    have ih := ordS_lex xs ys
    show _ = (if ordI (x.toNat : Int) (y.toNat : Int) = 0 then lexL _ xs ys else ordI (x.toNat : Int) (y.toNat : Int))
    rw [← ih]
    have hb : Op.bytesLess (x :: xs) (y :: ys) = (decide (x < y) || (x == y && Op.bytesLess xs ys)) := rfl
    rw [hb]
    by_cases h1 : x < y
    · have h1' : (x.toNat : Int) < y.toNat := by have := UInt8.lt_iff_toNat_lt.1 h1; omega
      have e : ordI (x.toNat : Int) (y.toNat : Int) = -1 := by unfold ordI; rw [if_pos h1']
      rw [e]
      simp [h1]
    · have h1' : ¬ (x.toNat : Int) < y.toNat := by intro h; exact h1 (UInt8.lt_iff_toNat_lt.2 (by omega))
      by_cases h2 : x = y
      · subst h2
        have e : ordI (x.toNat : Int) (x.toNat : Int) = 0 := isOrd_int.self _
        rw [e]
        have e2 : (decide (x < x) || (x == x) && Op.bytesLess xs ys) = Op.bytesLess xs ys := by simp [h1]
        rw [e2]
        simp
      · have h2' : (y.toNat : Int) < x.toNat := by
          have : x.toNat ≠ y.toNat := fun h => h2 (UInt8.toNat_inj.1 h)
          omega
        have e : ordI (x.toNat : Int) (y.toNat : Int) = 1 := by unfold ordI; rw [if_neg h1', if_pos h2']
        rw [e]
        simp [h1, h2]
theorem isOrd_str : IsOrd ordS := by
  have h : ordS = fun a b => lexL (fun x y => ordI (UInt8.toNat x) (UInt8.toNat y)) (ByteArray.toList a) (ByteArray.toList b) := by
    funext a b
    exact ordS_lex _ _
  rw [h]
  exact ((isOrd_int.by (fun x : UInt8 => (x.toNat : Int))).list).by ByteArray.toList

theorem orI_lex (a b c d : Int) : orI [a, b, c, d] = if a = 0 then (if b = 0 then (if c = 0 then d else c) else b) else a := by
  show (if a = 0 then (if b = 0 then (if c = 0 then (if d = 0 then 0 else d) else c) else b) else a) = _
  by_cases h : d = 0
  · rw [if_pos h, h]
  · rw [if_neg h]

theorem isOrd_step {f : V → V → Int} (h : IsOrd f) : IsOrd (fun a b : V => orI [ordI a.k b.k, ordI a.n b.n, ordS a.s b.s, cmpL f a.l b.l]) := by
  have e : (fun a b : V => orI [ordI a.k b.k, ordI a.n b.n, ordS a.s b.s, cmpL f a.l b.l]) = lex2 (fun a b => ordI (V.k a) (V.k b)) (lex2 (fun a b => ordI (V.n a) (V.n b)) (lex2 (fun a b => ordS (V.s a) (V.s b)) (fun a b => lexL f (V.l a) (V.l b)))) := by
    funext a b
    rw [orI_lex, cmpL_lex]
    rfl
  rw [e]
  exact (isOrd_int.by V.k).lex ((isOrd_int.by V.n).lex ((isOrd_str.by V.s).lex (h.list.by V.l)))

theorem isOrd_cmpV : ∀ d, IsOrd (cmpV d)
  | 0 => isOrd_step isOrd_none
  | d + 1 => isOrd_step (isOrd_cmpV d)

/-- what compares as the same is the same -/
theorem ordI_zero {a b : Int} (h : ordI a b = 0) : a = b := by unfold ordI at h; split at h; omega; split at h <;> omega
theorem ordS_zero {a b : ByteArray} (h : ordS a b = 0) : a = b := by
  unfold ordS at h
  split at h
  · omega
  · split at h
    · rename_i h2
      have h3 : a.toList = b.toList := by simpa using h2
      rw [Lib.toList_data, Lib.toList_data] at h3
      apply ByteArray.ext
      exact Array.toList_inj.1 h3
    · omega
/-- how deep a value is, at most -/
def V.flat : Nat → V → Prop
  | 0, v => v.l = []
  | d + 1, v => ∀ u ∈ v.l, V.flat d u
theorem cmpV_eq : ∀ (d : Nat) (a b : V), V.flat d a → V.flat d b → cmpV d a b = 0 → a = b := by
  intro d
  induction d with
  | zero =>
    intro a b ha hb h
    obtain ⟨k, n, s, l⟩ := a
    obtain ⟨k', n', s', l'⟩ := b
    unfold cmpV at h
    rw [orI_lex] at h
    have ha' : l = [] := ha
    have hb' : l' = [] := hb
    subst ha' hb'
    split at h
    · rename_i h1
      split at h
      · rename_i h2
        split at h
        · rename_i h3
          rw [show k = k' from ordI_zero h1, show n = n' from ordI_zero h2, show s = s' from ordS_zero h3]
        · contradiction
      · contradiction
    · contradiction
  | succ d ih =>
    intro a b ha hb h
    obtain ⟨k, n, s, l⟩ := a
    obtain ⟨k', n', s', l'⟩ := b
    unfold cmpV at h
    rw [orI_lex] at h
    split at h
    · rename_i h1
      split at h
      · rename_i h2
        split at h
        · rename_i h3
          have hl : l = l' := by
            have ha' : ∀ u ∈ l, V.flat d u := ha
            have hb' : ∀ u ∈ l', V.flat d u := hb
            have h' : cmpL (cmpV d) l l' = 0 := h
            clear h ha hb h1 h2 h3
            induction l generalizing l' with
            | nil => cases l' with
              | nil => rfl
              | cons y ys => cases h'
            | cons x xs ihl => cases l' with
              | nil => cases h'
              | cons y ys =>
                unfold cmpL at h'
                split at h'
                · rename_i hz
                  rw [ih x y (ha' x (by simp)) (hb' y (by simp)) hz, ihl ys (fun u hu => ha' u (by simp [hu])) (fun u hu => hb' u (by simp [hu])) h']
                · contradiction
          rw [show k = k' from ordI_zero h1, show n = n' from ordI_zero h2, show s = s' from ordS_zero h3, hl]
        · contradiction
      · contradiction
    · contradiction
theorem cmpV_self (d : Nat) (a : V) : cmpV d a a = 0 := (isOrd_cmpV d).self a
end Go.Proofs.YtmijlcilnaeppaaGreatDoor

/- Values of raw numbers: which they are. -/
set_option linter.unusedSimpArgs false
set_option linter.unusedVariables false
namespace Go.Proofs.YtmijlcilnaeppaaGreatDoor
open Go Go.RowKit Go.Shelf

def pickI (c n : Int) : Int := (if c < 0 then -(c + 1) else c) % n
theorem pickI_bd (c n : Int) (h : 0 < n) : 0 ≤ pickI c n ∧ pickI c n < n := ⟨Int.emod_nonneg _ (by omega), Int.emod_lt_of_pos _ h⟩

/-- the signs of a text that may be, as many as make less than 17 bytes and one more -/
def vtGo : Nat → List UInt8 → List UInt8 → List UInt8
  | 0, l, out => out
  | f + 1, l, out => if l = [] ∨ 17 ≤ out.length then out else vtGo f (l.drop (max (signL l) 1)) (if textOk (l.take (max (signL l) 1)) = true then out ++ l.take (max (signL l) 1) else out)
def valText (l : List UInt8) : List UInt8 := vtGo l.length l []

theorem signL_le (l : List UInt8) : signL l ≤ 4 := by
  unfold signL signN
  repeat' split
  all_goals omega
theorem vtGo_ok : ∀ (f : Nat) (l out : List UInt8), textOk out = true → out.length ≤ 20 → textOk (vtGo f l out) = true ∧ (vtGo f l out).length ≤ 20
  | 0, l, out, h1, h2 => ⟨h1, h2⟩
  | f + 1, l, out, h1, h2 => by
    unfold vtGo
    split
    · exact ⟨h1, h2⟩
    · rename_i hc
      have hl : out.length < 17 := by
        rcases Nat.lt_or_ge out.length 17 with h | h
        · exact h
        · exact absurd (Or.inr h) hc
      split
      · rename_i ht
        refine vtGo_ok f _ _ (by rw [textOk_append _ _ _ (Nat.le_refl _) h1]; exact ht) ?_
        have := signL_le l
        simp only [List.length_append, List.length_take]
        omega
      · exact vtGo_ok f _ _ h1 h2
theorem valText_ok (l : List UInt8) : textOk (valText l) = true ∧ (valText l).length ≤ 20 := vtGo_ok _ _ _ rfl (by simp)

theorem vtGo_fuel : ∀ (f g : Nat) (l out : List UInt8), l.length ≤ f → l.length ≤ g → vtGo f l out = vtGo g l out
  | 0, 0, _, _, _, _ => rfl
  | 0, g + 1, l, out, hf, _ => by
    obtain rfl : l = [] := List.eq_nil_of_length_eq_zero (by omega)
    show out = vtGo (g + 1) [] out
    unfold vtGo
    rw [if_pos (.inl rfl)]
  | f + 1, 0, l, out, _, hg => by
    obtain rfl : l = [] := List.eq_nil_of_length_eq_zero (by omega)
    show vtGo (f + 1) [] out = out
    unfold vtGo
    rw [if_pos (.inl rfl)]
  | f + 1, g + 1, l, out, hf, hg => by
    unfold vtGo
    by_cases h : l = [] ∨ 17 ≤ out.length
    · rw [if_pos h, if_pos h]
    · rw [if_neg h, if_neg h]
      have hl : 0 < l.length := List.length_pos_iff.2 (fun e => h (.inl e))
      exact vtGo_fuel f g _ _ (by rw [List.length_drop]; omega) (by rw [List.length_drop]; omega)

/-- raw numbers of a value -/
structure RawOne where
  k : Int
  n : Int
  s : ByteArray
def valOne (k : Int) (x : RawOne) : V :=
  if k = 1 then .mk 1 (if x.n < -1000000000000000 ∨ 1000000000000000 < x.n then pickI x.n 1000000000000001 else x.n) ⟨#[]⟩ []
  else if k = 2 then .mk 2 0 ⟨(valText x.s.data.toList).toArray⟩ []
  else if k = 3 ∨ k = 4 then .mk k (1 + pickI x.n 100000) ⟨#[]⟩ []
  else .mk 0 0 ⟨#[]⟩ []
theorem ba_size (l : List UInt8) : (⟨l.toArray⟩ : ByteArray).size = l.length := List.size_toArray
theorem valOne_ok (k : Int) (x : RawOne) : (valOne k x).flatOk = true ∧ (valOne k x).k ≠ 5 ∧ (valOne k x).l = [] := by
  unfold valOne
  split
  · refine ⟨?_, by show (1 : Int) ≠ 5; decide, rfl⟩
    have := pickI_bd x.n 1000000000000001 (by decide)
    have hb : ∀ n : Int, -1000000000000000 ≤ n ∧ n ≤ 1000000000000000 → flatOk 1 n ⟨#[]⟩ 0 = true := by
      intro n hn
      unfold flatOk
      rw [if_neg (by decide), if_pos rfl]
      exact decide_eq_true ⟨hn, rfl, rfl⟩
    refine hb _ ?_
    show -1000000000000000 ≤ (if _ then _ else _) ∧ (if _ then _ else _) ≤ _
    split <;> omega
  · split
    · refine ⟨?_, by show (2 : Int) ≠ 5; decide, rfl⟩
      have := valText_ok x.s.data.toList
      show flatOk 2 0 _ 0 = true
      unfold flatOk
      rw [if_neg (by decide), if_neg (by decide), if_pos rfl]
      refine decide_eq_true ⟨rfl, ⟨?_, ?_⟩, rfl⟩
      · show (⟨(valText x.s.data.toList).toArray⟩ : ByteArray).size ≤ 60
        rw [ba_size]; omega
      · exact this.1
    · split
      · rename_i h
        have hp := pickI_bd x.n 100000 (by decide)
        refine ⟨?_, by show k ≠ 5; omega, rfl⟩
        show flatOk k (1 + pickI x.n 100000) _ 0 = true
        unfold flatOk
        rw [if_neg (by omega), if_neg (by omega), if_neg (by omega), if_pos h]
        exact decide_eq_true ⟨.inl (by omega), rfl, rfl⟩
      · exact ⟨rfl, by decide, rfl⟩

structure Raw where
  k : Int
  n : Int
  s : ByteArray
  l : List RawOne
def valOf (x : Raw) : V :=
  if pickI x.k 7 < 5 then
    (if 3 ≤ (valOne (pickI x.k 7) ⟨0, x.n, x.s⟩).k ∧ pickI (x.k.tdiv 7) 4 = 0 then .mk (valOne (pickI x.k 7) ⟨0, x.n, x.s⟩).k (-1 - pickI x.n 20) ⟨#[]⟩ [] else valOne (pickI x.k 7) ⟨0, x.n, x.s⟩)
  else .mk 5 0 ⟨#[]⟩ ((x.l.take 12).map (fun r => valOne (pickI r.k 5) r))

theorem valOne_k {k : Int} {x : RawOne} (h : 3 ≤ (valOne k x).k) : (k = 3 ∨ k = 4) ∧ (valOne k x).k = k := by
  unfold valOne at h ⊢
  repeat' split at h
  all_goals first
    | (exfalso; revert h; show ¬ (3 ≤ (1 : Int)); decide)
    | (exfalso; revert h; show ¬ (3 ≤ (2 : Int)); decide)
    | (exfalso; revert h; show ¬ (3 ≤ (0 : Int)); decide)
    | skip
  rename_i h1 h2 h3
  rw [if_neg h1, if_neg h2, if_pos h3]
  exact ⟨h3, rfl⟩

theorem valOf_ok (x : Raw) : (valOf x).ok = true := by
  unfold valOf
  split
  · have h := valOne_ok (pickI x.k 7) ⟨0, x.n, x.s⟩
    split
    · rename_i hc
      obtain ⟨h1, h2⟩ := valOne_k hc.1
      rw [h2]
      have hp := pickI_bd x.n 20 (by decide)
      unfold V.ok
      rw [if_neg (by show ¬ pickI x.k 7 = 5; omega)]
      show flatOk (pickI x.k 7) (-1 - pickI x.n 20) _ 0 = true
      unfold flatOk
      rw [if_neg (by omega), if_neg (by omega), if_neg (by omega), if_pos h1]
      exact decide_eq_true ⟨.inr (by omega), rfl, rfl⟩
    · unfold V.ok
      rw [if_neg h.2.1]
      exact h.1
  · unfold V.ok
    show (if (5 : Int) = 5 then _ else _) = true
    rw [if_pos rfl]
    simp only [V.n, V.s, V.l]
    rw [Bool.and_eq_true, Bool.and_eq_true]
    refine ⟨by decide, decide_eq_true (by rw [List.length_map, List.length_take]; omega), ?_⟩
    rw [List.all_eq_true]
    intro u hu
    obtain ⟨r, _, rfl⟩ := List.mem_map.1 hu
    have h := valOne_ok (pickI r.k 5) r
    unfold V.okIn
    rw [h.1, Bool.and_true]
    simpa using h.2.1

theorem flat_fine {u : V} (h : u.flatOk = true) : u.fine := by
  have := flatOk_parts h
  exact ⟨by omega, by omega, by omega, by omega⟩
theorem ok_fine {v : V} (h : v.ok = true) : v.fine := by
  by_cases h5 : v.k = 5
  · obtain ⟨e, hl, _⟩ := ok_list h h5
    have hn : v.n = 0 := by rw [e]; rfl
    have hs : v.s.size = 0 := by rw [e]; rfl
    exact ⟨by omega, by omega, by omega, by omega⟩
  · exact flat_fine (ok_flat h h5)
theorem ok_deep {v : V} (h : v.ok = true) : V.flat 1 v := by
  intro u hu
  by_cases h5 : v.k = 5
  · have := (ok_list h h5).2.2 u hu
    have := (flatOk_parts (okIn_parts this).2).2.2.1
    exact List.eq_nil_of_length_eq_zero this
  · have := (flatOk_parts (ok_flat h h5)).2.2.1
    rw [List.eq_nil_of_length_eq_zero this] at hu
    cases hu
end Go.Proofs.YtmijlcilnaeppaaGreatDoor

/- val.Decode's two functions: a number, a text, from the place on that a cell holds. -/
set_option linter.unusedSimpArgs false
set_option linter.unusedVariables false
namespace Go.Proofs.YtmijlcilnaeppaaGreatDoor
open Go Go.RowKit Go.Shelf Go.Sort

/-- a text in a block, a place in another one, over a world that holds what start-up lays -/
structure Rd (w0 : World) (ea : Addr) (s : ByteArray) (Sb Ab : Nat) (p : Nat) (W : World) : Prop where
  hs : s.size ≤ 9223372036854775807
  t0 : Tabs w0
  e0 : errLies ea w0
  b0 : Below w0.heap.size w0 W
  ls : w0.heap.size ≤ Sb
  la : w0.heap.size ≤ Ab
  ne : Sb ≠ Ab
  sb : W.heap[Sb]? = some (.cells #[.string s] 9 (0, 0))
  ab : W.heap[Ab]? = some (.cells #[.int .i64 (p : Int)] 3 (0, 0))
  hp : p ≤ s.size
theorem Rd.lt {w0 : World} {ea : Addr} {s : ByteArray} {Sb Ab p : Nat} {W : World} (h : Rd w0 ea s Sb Ab p W) : Ab < W.heap.size := (Array.getElem?_eq_some_iff.1 h.ab).1
theorem Rd.lts {w0 : World} {ea : Addr} {s : ByteArray} {Sb Ab p : Nat} {W : World} (h : Rd w0 ea s Sb Ab p W) : Sb < W.heap.size := (Array.getElem?_eq_some_iff.1 h.sb).1
theorem Rd.below {w0 : World} {ea : Addr} {s : ByteArray} {Sb Ab p : Nat} {W W' : World} (h : Rd w0 ea s Sb Ab p W) (hb : Below W.heap.size W W') : Rd w0 ea s Sb Ab p W' :=
  ⟨h.hs, h.t0, h.e0, h.b0.trans (hb.mono h.b0.size), h.ls, h.la, h.ne, (hb.block _ h.lts).trans h.sb, (hb.block _ h.lt).trans h.ab, h.hp⟩
theorem Rd.tabs {w0 : World} {ea : Addr} {s : ByteArray} {Sb Ab p : Nat} {W : World} (h : Rd w0 ea s Sb Ab p W) : Tabs W := h.t0.below h.b0
theorem Rd.err {w0 : World} {ea : Addr} {s : ByteArray} {Sb Ab p : Nat} {W : World} (h : Rd w0 ea s Sb Ab p W) : errLies ea W := h.e0.below h.b0
theorem Rd.set {w0 : World} {ea : Addr} {s : ByteArray} {Sb Ab p q : Nat} {W : World} (h : Rd w0 ea s Sb Ab p W) (hq : q ≤ s.size) : Rd w0 ea s Sb Ab q (W.setCell ⟨Ab, 0, none⟩ (.int .i64 (q : Int))) := by
  refine ⟨h.hs, h.t0, h.e0, h.b0.setCell (p := ⟨Ab, 0, none⟩) h.la _, h.ls, h.la, h.ne, ?_, ?_, hq⟩
  · exact (Below.heap_setCell W ⟨Ab, 0, none⟩ _ Sb h.ne).trans h.sb
  · have := heap_setCell_same W Ab 0 _ _ (.int .i64 (q : Int)) h.ab
    exact this.trans rfl
/-- what is kept but the place -/
abbrev Kept (Ab : Nat) (W W' : World) : Prop := W.grownBy W' (some Ab)
theorem Kept.refl (Ab : Nat) (W : World) : Kept Ab W W := ⟨rfl, rfl, rfl, Nat.le_refl _, fun _ _ _ => rfl⟩
theorem Kept.below {Ab : Nat} {W W' W'' : World} (h : Kept Ab W W') (hb : Below W'.heap.size W' W'') : Kept Ab W W'' := grown_below h hb
theorem Kept.trans {Ab : Nat} {W W' W'' : World} (h : Kept Ab W W') (h' : Kept Ab W' W'') : Kept Ab W W'' :=
  ⟨h'.os.trans h.os, h'.tape.trans h.tape, h'.output.trans h.output, Nat.le_trans h.size h'.size, fun k hk hne => (h'.block k (Nat.lt_of_lt_of_le hk h.size) hne).trans (h.block k hk hne)⟩
theorem Kept.set {Ab : Nat} {W W' : World} (h : Kept Ab W W') (v : Value) : Kept Ab W (W'.setCell ⟨Ab, 0, none⟩ v) := grown_set_row h _ rfl v

/-- what the number's function answers -/
def decNumPost (w0 : World) (ea : Addr) (s : ByteArray) (Sb Ab p : Nat) (W : World) (e : Ending) (W' : World) : Prop :=
  Kept Ab W W' ∧ match numL (s.data.toList.drop p) with
    | none => e = .returned (.tuple #[.int .i64 0, .int .i64 10]) ∧ Rd w0 ea s Sb Ab 0 W'
    | some v => e = .returned (.tuple #[.int .i64 v, .int .i64 0]) ∧ Rd w0 ea s Sb Ab (p + (Wire.num v).length) W'

set_option maxRecDepth 100000 in
set_option maxHeartbeats 1000000 in
theorem decNum (w0 : World) (ea : Addr) (s : ByteArray) (Sb Ab p : Nat) (W : World) (h : Rd w0 ea s Sb Ab p W) :
    Calls Tryz.prog 52 #[.pointer (some ⟨Sb, 0, none⟩), .pointer (some ⟨Ab, 0, none⟩)] W (decNumPost w0 ea s Sb Ab p W) := by
  have hlt := h.lt
  have hc : ∀ W', Below W.heap.size W W' → W'.cell? ⟨Ab, 0, none⟩ = some (.int .i64 (p : Int)) ∧ W'.frozen? ⟨Ab, 0, none⟩ = false := fun W' hb => by
    have := (h.below hb).ab
    exact ⟨by rw [Lib.cell_of_heap this]; rfl, Lib.frozen_of_heap this 0⟩
  have s0 : W.cell? ⟨Sb, 0, none⟩ = some (.string s) := by rw [Lib.cell_of_heap h.sb]; rfl
  have a0 : W.cell? ⟨Ab, 0, none⟩ = some (.int .i64 (p : Int)) := (hc W (Below.refl _ _)).1
  have hr := readNum_any s h.hs p ea W h.err
  have H := Lib.hid h
  have HC := Lib.hid hc
  have hps := h.hp
  clear h hc
  go_enter Tryz.func52, Tryz.ntmps52
  go_wp2_with fail
  refine hr.mono ?_
  rintro e W1 ⟨hB, hcase⟩
  obtain ⟨c1, f1⟩ := HC.out W1 hB
  have hk := Kept.below (Kept.refl Ab W) hB
  have hz := hB.size
  have hR1 := H.out.below hB
  have HR1 := Lib.hid hR1
  clear hR1 hr HC
  have hd : s.data.toList.drop ((p : Nat) : Int).toNat = s.data.toList.drop p := by rw [Int.toNat_natCast]
  rcases hcase with ⟨v, hv, rfl⟩ | ⟨hno, rfl⟩
  · have hl : (p : Int) + ((Wire.num v).length : Nat) ≤ s.size := by
      have := hv.2.2.2.length_le
      rw [List.length_drop] at this
      have e : s.data.toList.length = s.size := by simp
      have := hv.2.1
      simp at *; omega
    have hn : numL (s.data.toList.drop p) = some v := numL_of hv.2.2.1 (by have := hv.2.2.2; rwa [hd] at this)
    have hR2 := HR1.out.set (q := p + (Wire.num v).length) (by omega)
    have hk2 := hk.set (.int .i64 ((p + (Wire.num v).length : Nat) : Int))
    have hcast : ((p + (Wire.num v).length : Nat) : Int) = (p : Int) + ((Wire.num v).length : Nat) := by omega
    rw [hcast] at hR2 hk2
    have HN := Lib.hid hn
    have HR2 := Lib.hid hR2
    clear hn hR2 hcast hd hv
    go_wp2_with fail
    go_ret2
    refine ⟨hk2, ?_⟩
    rw [HN.out]
    exact ⟨rfl, HR2.out⟩
  · have hn : numL (s.data.toList.drop p) = none := numL_none (fun v a b => hno v ⟨by omega, by omega, a, by rw [hd]; exact b⟩)
    have hR2 := HR1.out.set (q := 0) (by omega)
    have hk2 := hk.set (.int .i64 ((0 : Nat) : Int))
    have HN := Lib.hid hn
    have HR2 := Lib.hid hR2
    clear hn hR2 hd hno
    go_wp2_with fail
    go_ret2
    refine ⟨hk2, ?_⟩
    rw [HN.out]
    exact ⟨rfl, HR2.out⟩

/-- what the text's function answers -/
def decTextPost (w0 : World) (ea : Addr) (s : ByteArray) (Sb Ab p : Nat) (W : World) (e : Ending) (W' : World) : Prop :=
  Kept Ab W W' ∧ match textL (s.data.toList.drop p) with
    | none => e = .returned (.tuple #[.string ⟨#[]⟩, .int .i64 10]) ∧ Rd w0 ea s Sb Ab 0 W'
    | some t => e = .returned (.tuple #[.string ⟨t.toArray⟩, .int .i64 0]) ∧ Rd w0 ea s Sb Ab (p + ((Wire.num t.length).length + t.length)) W'

set_option maxRecDepth 100000 in
set_option maxHeartbeats 1000000 in
theorem decText (w0 : World) (ea : Addr) (s : ByteArray) (Sb Ab p : Nat) (W : World) (h : Rd w0 ea s Sb Ab p W) :
    Calls Tryz.prog 54 #[.pointer (some ⟨Sb, 0, none⟩), .pointer (some ⟨Ab, 0, none⟩)] W (decTextPost w0 ea s Sb Ab p W) := by
  have hlt := h.lt
  have hc : ∀ W', Below W.heap.size W W' → W'.cell? ⟨Ab, 0, none⟩ = some (.int .i64 (p : Int)) ∧ W'.frozen? ⟨Ab, 0, none⟩ = false := fun W' hb => by
    have := (h.below hb).ab
    exact ⟨by rw [Lib.cell_of_heap this]; rfl, Lib.frozen_of_heap this 0⟩
  have s0 : W.cell? ⟨Sb, 0, none⟩ = some (.string s) := by rw [Lib.cell_of_heap h.sb]; rfl
  have a0 : W.cell? ⟨Ab, 0, none⟩ = some (.int .i64 (p : Int)) := (hc W (Below.refl _ _)).1
  have hr := readText_any s h.hs p ea W h.err
  have H := Lib.hid h
  have HC := Lib.hid hc
  have hps := h.hp
  have hsz := h.hs
  clear h hc
  go_enter Tryz.func54, Tryz.ntmps54
  go_wp2_with fail
  refine hr.mono ?_
  rintro e W1 ⟨hB, hcase⟩
  obtain ⟨c1, f1⟩ := HC.out W1 hB
  have hk := Kept.below (Kept.refl Ab W) hB
  have hz := hB.size
  have hR1 := H.out.below hB
  have HR1 := Lib.hid hR1
  clear hR1 hr HC
  have hd : s.data.toList.drop ((p : Nat) : Int).toNat = s.data.toList.drop p := by rw [Int.toNat_natCast]
  rcases hcase with ⟨t, hv, rfl⟩ | ⟨hno, rfl⟩
  · have hl := readsText_room hv
    have hn : textL (s.data.toList.drop p) = some t := textL_of hv.2.2.1 (by have := hv.2.2.2; rwa [hd] at this)
    have hR2 := HR1.out.set (q := p + ((Wire.num t.length).length + t.length)) (by omega)
    have hk2 := hk.set (.int .i64 ((p + ((Wire.num t.length).length + t.length) : Nat) : Int))
    have hcast : ((p + ((Wire.num t.length).length + t.length) : Nat) : Int) = (p : Int) + ((Wire.num t.length).length : Nat) + (t.length : Nat) := by omega
    rw [hcast] at hR2 hk2
    have HN := Lib.hid hn
    have HR2 := Lib.hid hR2
    clear hn hR2 hcast hd hv
    go_wp2_with fail
    go_ret2
    refine ⟨hk2, ?_⟩
    rw [HN.out]
    exact ⟨rfl, HR2.out⟩
  · have hn : textL (s.data.toList.drop p) = none := textL_none (fun t a b => hno t ⟨by omega, by omega, a, by rw [hd]; exact b⟩)
    have hR2 := HR1.out.set (q := 0) (by omega)
    have hk2 := hk.set (.int .i64 ((0 : Nat) : Int))
    have HN := Lib.hid hn
    have HR2 := Lib.hid hR2
    clear hn hR2 hd hno
    go_wp2_with fail
    go_ret2
    refine ⟨hk2, ?_⟩
    rw [HN.out]
    exact ⟨rfl, HR2.out⟩
end Go.Proofs.YtmijlcilnaeppaaGreatDoor

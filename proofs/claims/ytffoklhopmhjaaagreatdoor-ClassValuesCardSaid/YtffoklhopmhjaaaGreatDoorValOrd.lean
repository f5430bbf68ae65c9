/- Values stand in one order. -/
import Derived.Test.YtffoklhopmhjaaaGreatDoorValCmp
set_option linter.unusedSimpArgs false
set_option linter.unusedVariables false
namespace Go.Proofs.YtffoklhopmhjaaaGreatDoor
open Go Go.RowKit Go.Shelf

/-- a way to compare that is one order -/
structure IsOrd {α : Type} (f : α → α → Int) : Prop where
  lo : ∀ a b, -1 ≤ f a b
  hi : ∀ a b, f a b ≤ 1
  anti : ∀ a b, f a b = - f b a
  trans : ∀ a b c, f a b ≤ 0 → f b c ≤ 0 → f a c ≤ 0
theorem IsOrd.self {α : Type} {f : α → α → Int} (h : IsOrd f) (a : α) : f a a = 0 := by have := h.anti a a; omega
theorem IsOrd.left {α : Type} {f : α → α → Int} (h : IsOrd f) {a b : α} (hz : f a b = 0) (c : α) : f a c = f b c := by
  have h1 := h.trans a b c
  have h2 := h.trans b a c
  have h3 := h.anti b a
  have h4 := h.trans c b a
  have h5 := h.trans c a b
  have h6 := h.anti c a
  have h7 := h.anti c b
  have h8 := h.lo a c
  have h9 := h.hi a c
  have g8 := h.lo b c
  have g9 := h.hi b c
  have e1 : f a c ≤ 0 ↔ f b c ≤ 0 := ⟨fun k => h2 (by omega) k, fun k => h1 (by omega) k⟩
  have e2 : f c a ≤ 0 ↔ f c b ≤ 0 := ⟨fun k => h5 k (by omega), fun k => h4 k (by omega)⟩
  omega
theorem IsOrd.right {α : Type} {f : α → α → Int} (h : IsOrd f) {b c : α} (hz : f b c = 0) (a : α) : f a b = f a c := by
  have := h.left hz a
  have h1 := h.anti a b
  have h2 := h.anti a c
  omega
def lex2 {α : Type} (f g : α → α → Int) (a b : α) : Int := if f a b = 0 then g a b else f a b
theorem IsOrd.lex {α : Type} {f g : α → α → Int} (hf : IsOrd f) (hg : IsOrd g) : IsOrd (lex2 f g) where
  lo a b := by unfold lex2; split; exact hg.lo a b; exact hf.lo a b
  hi a b := by unfold lex2; split; exact hg.hi a b; exact hf.hi a b
  anti a b := by
    have h1 := hf.anti a b
    have h2 := hg.anti a b
    unfold lex2
    by_cases h : f a b = 0
    · rw [if_pos h, if_pos (by omega)]; exact h2
    · rw [if_neg h, if_neg (by omega)]; exact h1
  trans a b c := by
    have lo1 := hf.lo a b
    have lo2 := hf.lo b c
    have lo3 := hf.lo a c
    unfold lex2
    by_cases h : f a b = 0
    · have e := hf.left h c
      by_cases h' : f b c = 0
      · rw [if_pos h, if_pos h', if_pos (by omega)]; exact hg.trans a b c
      · rw [if_neg h', if_neg (show ¬ f a c = 0 by omega)]; intro _ k; omega
    · rw [if_neg h]
      by_cases h' : f b c = 0
      · have e := hf.right h' a
        rw [if_neg (show ¬ f a c = 0 by omega)]; intro k _; omega
      · rw [if_neg h']
        intro k k'
        have t := hf.trans a b c k k'
        by_cases h'' : f a c = 0
        · have e := hf.left h'' b
          have := hf.anti c b
          omega
        · rw [if_neg h'']; exact t
theorem IsOrd.by {α β : Type} {f : α → α → Int} (h : IsOrd f) (p : β → α) : IsOrd (fun a b => f (p a) (p b)) :=
  ⟨fun a b => h.lo _ _, fun a b => h.hi _ _, fun a b => h.anti _ _, fun a b c => h.trans _ _ _⟩
theorem isOrd_none {α : Type} : IsOrd (fun (_ _ : α) => (0 : Int)) := ⟨fun _ _ => by decide, fun _ _ => by decide, fun _ _ => rfl, fun _ _ _ _ _ => by decide⟩
theorem isOrd_int : IsOrd ordI := by
  constructor
  · intro a b; unfold ordI; split; omega; split <;> omega
  · intro a b; unfold ordI; split; omega; split <;> omega
  · intro a b; unfold ordI; repeat' split
    all_goals omega
  · intro a b c; unfold ordI; repeat' split
    all_goals omega
def lexL {α : Type} (f : α → α → Int) : List α → List α → Int
  | [], [] => 0
  | [], _ :: _ => -1
  | _ :: _, [] => 1
  | x :: xs, y :: ys => if f x y = 0 then lexL f xs ys else f x y
theorem IsOrd.list {α : Type} {f : α → α → Int} (h : IsOrd f) : IsOrd (lexL f) where
  lo a := by
    induction a with
    | nil => intro b; cases b <;> simp [lexL]
    | cons x xs ih => intro b; cases b with
      | nil => simp [lexL]
      | cons y ys => unfold lexL; split; exact ih ys; exact h.lo x y
  hi a := by
    induction a with
    | nil => intro b; cases b <;> simp [lexL]
    | cons x xs ih => intro b; cases b with
      | nil => simp [lexL]
      | cons y ys => unfold lexL; split; exact ih ys; exact h.hi x y
  anti a := by
    induction a with
    | nil => intro b; cases b <;> simp [lexL]
    | cons x xs ih => intro b; cases b with
      | nil => simp [lexL]
      | cons y ys =>
        have e := h.anti x y
        unfold lexL
        by_cases hz : f x y = 0
        · rw [if_pos hz, if_pos (by omega)]; exact ih ys
        · rw [if_neg hz, if_neg (by omega)]; exact e
  trans a := by
    induction a with
    | nil => intro b c; cases c <;> cases b <;> simp [lexL]
    | cons x xs ih =>
      intro b c
      cases b with
      | nil => simp [lexL]
      | cons y ys =>
        cases c with
        | nil => simp [lexL]
        | cons z zs =>
          have lo1 := h.lo x y
          have lo2 := h.lo y z
          have lo3 := h.lo x z
          unfold lexL
          by_cases h1 : f x y = 0
          · have e := h.left h1 z
            by_cases h2 : f y z = 0
            · rw [if_pos h1, if_pos h2, if_pos (by omega)]; exact ih ys zs
            · rw [if_neg h2, if_neg (show ¬ f x z = 0 by omega)]; intro _ k; omega
          · rw [if_neg h1]
            by_cases h2 : f y z = 0
            · have e := h.right h2 x
              rw [if_neg (show ¬ f x z = 0 by omega)]; intro k _; omega
            · rw [if_neg h2]
              intro k k'
              have t := h.trans x y z k k'
              by_cases h3 : f x z = 0
              · have e := h.left h3 y
                have := h.anti z y
                omega
              · rw [if_neg h3]; exact t

theorem cmpL_lex (f : V → V → Int) : ∀ a b, cmpL f a b = lexL f a b
  | [], [] => rfl
  | [], _ :: _ => rfl
  | _ :: _, [] => rfl
  | x :: xs, y :: ys => by show (if f x y = 0 then cmpL f xs ys else f x y) = (if f x y = 0 then lexL f xs ys else f x y); rw [cmpL_lex f xs ys]

theorem ordS_lex : ∀ (a b : List UInt8), (if Op.bytesLess a b = true then (-1 : Int) else if (a == b) = true then 0 else 1) = lexL (fun x y => ordI (UInt8.toNat x) (UInt8.toNat y)) a b
  | [], [] => rfl
  | [], _ :: _ => rfl
  | _ :: _, [] => rfl
  | x :: xs, y :: ys => by
    have ih := ordS_lex xs ys
    show _ = (if ordI (x.toNat : Int) (y.toNat : Int) = 0 then lexL _ xs ys else ordI (x.toNat : Int) (y.toNat : Int))
    rw [← ih]
    have hb : Op.bytesLess (x :: xs) (y :: ys) = (decide (x < y) || (x == y && Op.bytesLess xs ys)) := rfl
    rw [hb]
    by_cases h1 : x < y
    · have h1' : (x.toNat : Int) < y.toNat := by have := UInt8.lt_iff_toNat_lt.1 h1; omega
      have e : ordI (x.toNat : Int) (y.toNat : Int) = -1 := by unfold ordI; rw [if_pos h1']
      rw [e]
      simp [h1]
    · have h1' : ¬ (x.toNat : Int) < y.toNat := by intro h; exact h1 (UInt8.lt_iff_toNat_lt.2 (by omega))
      by_cases h2 : x = y
      · subst h2
        have e : ordI (x.toNat : Int) (x.toNat : Int) = 0 := isOrd_int.self _
        rw [e]
        have e2 : (decide (x < x) || (x == x) && Op.bytesLess xs ys) = Op.bytesLess xs ys := by simp [h1]
        rw [e2]
        simp
      · have h2' : (y.toNat : Int) < x.toNat := by
          have : x.toNat ≠ y.toNat := fun h => h2 (UInt8.toNat_inj.1 h)
          omega
        have e : ordI (x.toNat : Int) (y.toNat : Int) = 1 := by unfold ordI; rw [if_neg h1', if_pos h2']
        rw [e]
        simp [h1, h2]
theorem isOrd_str : IsOrd ordS := by
  have h : ordS = fun a b => lexL (fun x y => ordI (UInt8.toNat x) (UInt8.toNat y)) (ByteArray.toList a) (ByteArray.toList b) := by
    funext a b
    exact ordS_lex _ _
  rw [h]
  exact ((isOrd_int.by (fun x : UInt8 => (x.toNat : Int))).list).by ByteArray.toList

theorem orI_lex (a b c d : Int) : orI [a, b, c, d] = if a = 0 then (if b = 0 then (if c = 0 then d else c) else b) else a := by
  show (if a = 0 then (if b = 0 then (if c = 0 then (if d = 0 then 0 else d) else c) else b) else a) = _
  by_cases h : d = 0
  · rw [if_pos h, h]
  · rw [if_neg h]

theorem isOrd_step {f : V → V → Int} (h : IsOrd f) : IsOrd (fun a b : V => orI [ordI a.k b.k, ordI a.n b.n, ordS a.s b.s, cmpL f a.l b.l]) := by
  have e : (fun a b : V => orI [ordI a.k b.k, ordI a.n b.n, ordS a.s b.s, cmpL f a.l b.l]) = lex2 (fun a b => ordI (V.k a) (V.k b)) (lex2 (fun a b => ordI (V.n a) (V.n b)) (lex2 (fun a b => ordS (V.s a) (V.s b)) (fun a b => lexL f (V.l a) (V.l b)))) := by
    funext a b
    rw [orI_lex, cmpL_lex]
    rfl
  rw [e]
  exact (isOrd_int.by V.k).lex ((isOrd_int.by V.n).lex ((isOrd_str.by V.s).lex (h.list.by V.l)))

theorem isOrd_cmpV : ∀ d, IsOrd (cmpV d)
  | 0 => isOrd_step isOrd_none
  | d + 1 => isOrd_step (isOrd_cmpV d)

/-- what compares as the same is the same -/
theorem ordI_zero {a b : Int} (h : ordI a b = 0) : a = b := by unfold ordI at h; split at h; omega; split at h <;> omega
theorem ordS_zero {a b : ByteArray} (h : ordS a b = 0) : a = b := by
  unfold ordS at h
  split at h
  · omega
  · split at h
    · rename_i h2
      have h3 : a.toList = b.toList := by simpa using h2
      rw [Lib.toList_data, Lib.toList_data] at h3
      apply ByteArray.ext
      exact Array.toList_inj.1 h3
    · omega
/-- how deep a value is, at most -/
def V.flat : Nat → V → Prop
  | 0, v => v.l = []
  | d + 1, v => ∀ u ∈ v.l, V.flat d u
theorem cmpV_eq : ∀ (d : Nat) (a b : V), V.flat d a → V.flat d b → cmpV d a b = 0 → a = b := by
  intro d
  induction d with
  | zero =>
    intro a b ha hb h
    obtain ⟨k, n, s, l⟩ := a
    obtain ⟨k', n', s', l'⟩ := b
    unfold cmpV at h
    rw [orI_lex] at h
    have ha' : l = [] := ha
    have hb' : l' = [] := hb
    subst ha' hb'
    split at h
    · rename_i h1
      split at h
      · rename_i h2
        split at h
        · rename_i h3
          rw [show k = k' from ordI_zero h1, show n = n' from ordI_zero h2, show s = s' from ordS_zero h3]
        · contradiction
      · contradiction
    · contradiction
  | succ d ih =>
    intro a b ha hb h
    obtain ⟨k, n, s, l⟩ := a
    obtain ⟨k', n', s', l'⟩ := b
    unfold cmpV at h
    rw [orI_lex] at h
    split at h
    · rename_i h1
      split at h
      · rename_i h2
        split at h
        · rename_i h3
          have hl : l = l' := by
            have ha' : ∀ u ∈ l, V.flat d u := ha
            have hb' : ∀ u ∈ l', V.flat d u := hb
            have h' : cmpL (cmpV d) l l' = 0 := h
            clear h ha hb h1 h2 h3
            induction l generalizing l' with
            | nil => cases l' with
              | nil => rfl
              | cons y ys => cases h'
            | cons x xs ihl => cases l' with
              | nil => cases h'
              | cons y ys =>
                unfold cmpL at h'
                split at h'
                · rename_i hz
                  rw [ih x y (ha' x (by simp)) (hb' y (by simp)) hz, ihl ys (fun u hu => ha' u (by simp [hu])) (fun u hu => hb' u (by simp [hu])) h']
                · contradiction
          rw [show k = k' from ordI_zero h1, show n = n' from ordI_zero h2, show s = s' from ordS_zero h3, hl]
        · contradiction
      · contradiction
    · contradiction
theorem cmpV_self (d : Nat) (a : V) : cmpV d a a = 0 := (isOrd_cmpV d).self a
end Go.Proofs.YtffoklhopmhjaaaGreatDoor

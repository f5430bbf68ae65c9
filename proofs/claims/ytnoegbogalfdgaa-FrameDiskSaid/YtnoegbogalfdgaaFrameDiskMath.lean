/- Frames in the sectors of a disk, some of them synced: plain lists. -/
import Derived.Test.YtnoegbogalfdgaaFrameRotsLaw
set_option linter.unusedSimpArgs false
set_option linter.unusedVariables false
namespace Wire
def zsec : List UInt8 := List.replicate 64 0
def keepTo (l : List Int) (m i : Nat) : List Nat := (l.take i).foldl (fun a c => if Frame.pickOf c m ∈ a then a else a ++ [Frame.pickOf c m]) []
theorem keepTo_zero (l : List Int) (m : Nat) : keepTo l m 0 = [] := rfl
theorem keepTo_succ (l : List Int) (m i : Nat) (h : i < l.length) : keepTo l m (i + 1) = if Frame.pickOf l[i] m ∈ keepTo l m i then keepTo l m i else keepTo l m i ++ [Frame.pickOf l[i] m] := by
  unfold keepTo; rw [List.take_succ_eq_append_getElem h, List.foldl_append]; rfl
theorem keepTo_fold (m : Nat) (hm : 0 < m) : ∀ (l : List Int) (a : List Nat), (∀ k ∈ a, k < m) → a.Nodup → (∀ k ∈ l.foldl (fun a c => if Frame.pickOf c m ∈ a then a else a ++ [Frame.pickOf c m]) a, k < m) ∧ (l.foldl (fun a c => if Frame.pickOf c m ∈ a then a else a ++ [Frame.pickOf c m]) a).Nodup
  | [], a, h1, h2 => ⟨h1, h2⟩
  | c :: r, a, h1, h2 => by
    rw [List.foldl_cons]
    refine keepTo_fold m hm r _ ?_ ?_
    · split
      · exact h1
      · intro k hk
        rcases List.mem_append.1 hk with hk | hk
        · exact h1 k hk
        · rw [List.mem_singleton.1 hk]; exact Frame.pickOf_lt c hm
    · split
      · exact h2
      · rename_i hn
        refine List.nodup_append.2 ⟨h2, by simp, fun x hx y hy e => ?_⟩
        rw [List.mem_singleton.1 hy] at e
        exact hn (e ▸ hx)
theorem keepTo_ok (l : List Int) (m i : Nat) (hm : 0 < m) : (∀ k ∈ keepTo l m i, k < m) ∧ (keepTo l m i).Nodup := keepTo_fold m hm _ [] (by simp) List.nodup_nil
theorem nodup_len : ∀ (m : Nat) (l : List Nat), (∀ k ∈ l, k < m) → l.Nodup → l.length ≤ m
  | 0, l, h1, _ => by
    cases l with
    | nil => simp
    | cons a r => exact absurd (h1 a List.mem_cons_self) (by omega)
  | m + 1, l, h1, h2 => by
    have ih := nodup_len m (l.erase m) (fun k hk => by
      have hk2 := (List.Nodup.mem_erase_iff h2).1 hk
      have := h1 k hk2.2
      omega) (h2.erase m)
    by_cases hm : m ∈ l
    · rw [List.length_erase_of_mem hm] at ih
      omega
    · rw [List.erase_of_not_mem hm] at ih
      omega
theorem lastOf_cases (k : List UInt8) (ws : List (Nat × List UInt8)) (a : Nat) : lastOf k ws a = k ∨ ∃ p ∈ ws, p.1 = a ∧ lastOf k ws a = p.2 := by
  induction ws generalizing k with
  | nil => exact .inl rfl
  | cons w r ih =>
    have e : lastOf k (w :: r) a = lastOf (if w.1 = a then w.2 else k) r a := rfl
    rw [e]
    rcases ih (if w.1 = a then w.2 else k) with h | ⟨p, hp, h1, h2⟩
    · by_cases hw : w.1 = a
      · rw [if_pos hw] at h ⊢
        exact .inr ⟨w, List.mem_cons_self, hw, h⟩
      · rw [if_neg hw] at h ⊢
        exact .inl h
    · exact .inr ⟨p, List.mem_cons_of_mem _ hp, h1, h2⟩
end Wire
namespace Go.Proofs.Ytnoegbogalfdgaa
open Go Go.RowKit Wire

structure Sy (Fs : List Fr) (K : List (List UInt8)) (P : List (Nat × List UInt8)) (S : Nat) : Prop where
  kl : K.length = 64
  sync : ∀ (j : Nat) (f : Fr), j < S → Fs[j]? = some f → K[j]? = some (secOf f)
  zero : ∀ j, S ≤ j → j < 64 → K[j]? = some zsec
  plen : P.length = Fs.length - S
  pend : ∀ m p, P[m]? = some p → ∃ f, Fs[S + m]? = some f ∧ p = (S + m, secOf f)
  lo : S ≤ Fs.length
  last : ∀ (j : Nat) (f : Fr), S ≤ j → Fs[j]? = some f → ∀ K0, lastOf K0 P j = secOf f
  far : ∀ j, j < S ∨ Fs.length ≤ j → ∀ K0, lastOf K0 P j = K0
theorem Sy.start : Sy [] (zeros 64).kept [] 0 := by
  refine ⟨zeros64_len, fun j f h => absurd h (by omega), fun j _ hj => ?_, rfl, fun m p h => by simp at h, Nat.le_refl _, fun j f _ h => by simp at h, fun _ _ _ => rfl⟩
  show (List.replicate 64 (List.replicate 64 (0 : UInt8)))[j]? = _
  rw [List.getElem?_replicate, if_pos hj]; rfl
theorem Sy.write {Fs : List Fr} {K : List (List UInt8)} {P : List (Nat × List UInt8)} {S : Nat} (h : Sy Fs K P S) (f : Fr) : Sy (Fs ++ [f]) K (P ++ [(Fs.length, secOf f)]) S := by
  have hlo := h.lo
  have hpl := h.plen
  refine ⟨h.kl, fun j g hj hg => ?_, h.zero, by simp; omega, fun m p hp => ?_, by simp; omega, fun j g hj hg K0 => ?_, fun j hj K0 => ?_⟩
  · rw [List.getElem?_append_left (by omega)] at hg
    exact h.sync j g hj hg
  · by_cases hm : m < P.length
    · rw [List.getElem?_append_left hm] at hp
      obtain ⟨g, h1, h2⟩ := h.pend m p hp
      exact ⟨g, by rw [List.getElem?_append_left (by omega)]; exact h1, h2⟩
    · have hm2 : m = P.length := by
        have := (List.getElem?_eq_some_iff.1 hp).1
        simp at this; omega
      subst hm2
      rw [List.getElem?_append_right (Nat.le_refl _)] at hp
      simp at hp
      have e : S + P.length = Fs.length := by omega
      exact ⟨f, by rw [e, List.getElem?_append_right (Nat.le_refl _)]; simp, by rw [← hp, e]⟩
  · rw [lastOf_snoc]
    by_cases hj2 : Fs.length = j
    · subst hj2
      rw [if_pos rfl]
      rw [List.getElem?_append_right (Nat.le_refl _)] at hg
      simp at hg
      rw [hg]
    · rw [if_neg hj2]
      have hlt : j < Fs.length := by
        have := (List.getElem?_eq_some_iff.1 hg).1
        simp at this; omega
      rw [List.getElem?_append_left hlt] at hg
      exact h.last j g hj hg K0
  · rw [lastOf_snoc]
    simp only [List.length_append, List.length_singleton] at hj
    rw [if_neg (by omega)]
    exact h.far j (by omega) K0
theorem Sy.all {Fs : List Fr} {K : List (List UInt8)} {P : List (Nat × List UInt8)} {S : Nat} (h : Sy Fs K P S) (hl : Fs.length ≤ 64) : Sy Fs (layW K P) [] Fs.length := by
  have hlo := h.lo
  refine ⟨by rw [layW_length]; exact h.kl, fun j f hj hf => ?_, fun j hj hj2 => ?_, by simp, fun m p hp => by simp at hp, Nat.le_refl _, fun j f hj hf => ?_, fun _ _ _ => rfl⟩
  · have hjk : j < K.length := by rw [h.kl]; omega
    rw [layW_get, List.getElem?_eq_getElem hjk]
    show some (lastOf _ P j) = _
    by_cases hjS : j < S
    · have := h.sync j f hjS hf
      rw [List.getElem?_eq_getElem hjk] at this
      rw [h.far j (.inl hjS)]
      exact this
    · rw [h.last j f (by omega) hf]
  · have hjk : j < K.length := by rw [h.kl]; omega
    have := h.zero j (by omega) hj2
    rw [List.getElem?_eq_getElem hjk] at this
    rw [layW_get, List.getElem?_eq_getElem hjk]
    show some (lastOf _ P j) = _
    rw [h.far j (.inr hj)]
    exact this
  · have := (List.getElem?_eq_some_iff.1 hf).1
    omega
theorem Sy.crash {Fs : List Fr} {K : List (List UInt8)} {P : List (Nat × List UInt8)} {S : Nat} (h : Sy Fs K P S) (KL : List Nat) : (layW K (KL.filterMap fun x => P[x]?)).length = 64 ∧
    ∀ j, j < 64 → (∃ f, Fs[j]? = some f ∧ (layW K (KL.filterMap fun x => P[x]?))[j]? = some (secOf f)) ∨ (S ≤ j ∧ (layW K (KL.filterMap fun x => P[x]?))[j]? = some zsec) := by
  refine ⟨by rw [layW_length]; exact h.kl, fun j hj => ?_⟩
  have hjk : j < K.length := by rw [h.kl]; omega
  rw [layW_get, List.getElem?_eq_getElem hjk]
  show (∃ f, Fs[j]? = some f ∧ some (lastOf K[j] _ j) = some (secOf f)) ∨ (S ≤ j ∧ some (lastOf K[j] _ j) = some zsec)
  rcases lastOf_cases K[j] (KL.filterMap fun x => P[x]?) j with h1 | ⟨p, hp, h1, h2⟩
  · rw [h1]
    by_cases hjS : j < S
    · have hlo := h.lo
      have hf : Fs[j]? = some Fs[j] := List.getElem?_eq_getElem (by omega)
      have := h.sync j _ hjS hf
      rw [List.getElem?_eq_getElem hjk] at this
      exact .inl ⟨_, hf, this⟩
    · have := h.zero j (by omega) hj
      rw [List.getElem?_eq_getElem hjk] at this
      exact .inr ⟨by omega, this⟩
  · rw [h2]
    obtain ⟨m, _, hm⟩ := List.mem_filterMap.1 hp
    obtain ⟨f, hf, rfl⟩ := h.pend m p hm
    dsimp only at h1
    rw [h1] at hf
    exact .inl ⟨f, hf, rfl⟩

/-- frames that stand at their places -/
def PosOk (Fs : List Fr) : Prop := ∀ (j : Nat) (f : Fr), Fs[j]? = some f → f.a = (j : Int)
theorem PosOk.snoc {Fs : List Fr} (h : PosOk Fs) {f : Fr} (hf : f.a = (Fs.length : Int)) : PosOk (Fs ++ [f]) := fun j g hg => by
  by_cases hj : j < Fs.length
  · rw [List.getElem?_append_left hj] at hg
    exact h j g hg
  · have : j = Fs.length := by
      have := (List.getElem?_eq_some_iff.1 hg).1
      simp at this; omega
    subst this
    rw [List.getElem?_append_right (Nat.le_refl _)] at hg
    simp at hg
    rw [← hg]; exact hf
theorem many_ge : ∀ (l : List Item) (i k sure : Nat), sure ≤ l.length → i + total (l.take sure) ≤ k → sure ≤ many l i k
  | l, i, k, 0, _, _ => Nat.zero_le _
  | [], i, k, s + 1, h, _ => by simp at h
  | x :: r, i, k, s + 1, h, hk => by
    have ht : total ((x :: r).take (s + 1)) = x.len + total (r.take s) := by simp [total]
    rw [ht] at hk
    have ih := many_ge r (i + x.len) k s (by simpa using h) (by omega)
    have hx : x.n ≤ x.len := by unfold Item.len; omega
    unfold many at ih ⊢
    rw [ends, List.filter_cons, if_pos (by simp; omega), List.length_cons]
    omega
/-- an empty sector is no frame -/
theorem read_zero (w : World) : Calls Try.prog 13 #[.string ⟨zsec.toArray⟩] w fun y w' => y = noFrame ∧ Below w.heap.size w w' := by
  refine read_none _ (fun e a k t hr he => ?_) w
  have hz : (⟨zsec.toArray⟩ : ByteArray).data.toList = zsec := rfl
  rw [hz] at he
  have h1 : 1 ≤ e ∧ e ≤ 16777215 := by
    unfold Frame.right at hr; simp only [decide_eq_true_eq] at hr; omega
  have g0 := congrArg (fun l => l[0]?) he
  have g1 := congrArg (fun l => l[1]?) he
  have g2 := congrArg (fun l => l[2]?) he
  have f0 : UInt8.ofNat (e / 65536 % 256) = 0 := Option.some.inj (show some (UInt8.ofNat (e / 65536 % 256)) = some 0 from g0)
  have f1 : UInt8.ofNat (e / 256 % 256) = 0 := Option.some.inj (show some (UInt8.ofNat (e / 256 % 256)) = some 0 from g1)
  have f2 : UInt8.ofNat (e % 256) = 0 := Option.some.inj (show some (UInt8.ofNat (e % 256)) = some 0 from g2)
  have k0 := congrArg UInt8.toNat f0
  have k1 := congrArg UInt8.toNat f1
  have k2 := congrArg UInt8.toNat f2
  rw [Frame.ofNat_toNat (by omega)] at k0 k1 k2
  simp at k0 k1 k2
  omega
end Go.Proofs.Ytnoegbogalfdgaa

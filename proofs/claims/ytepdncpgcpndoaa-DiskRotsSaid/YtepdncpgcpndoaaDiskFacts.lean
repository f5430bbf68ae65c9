/- What the disk's laws need of plain lists. -/
import Derived.Test.YtepdncpgcpndoaaDiskState
set_option linter.unusedSimpArgs false
set_option linter.unusedVariables false
namespace Wire
theorem keepTo_fold (m : Nat) (hm : 0 < m) : ∀ (l : List Int) (a : List Nat), (∀ k ∈ a, k < m) → a.Nodup → (∀ k ∈ l.foldl (fun a c => if pickOf c m ∈ a then a else a ++ [pickOf c m]) a, k < m) ∧ (l.foldl (fun a c => if pickOf c m ∈ a then a else a ++ [pickOf c m]) a).Nodup
  | [], a, h1, h2 => ⟨h1, h2⟩
  | c :: r, a, h1, h2 => by
    rw [List.foldl_cons]
    refine keepTo_fold m hm r _ ?_ ?_
    · split
      · exact h1
      · intro k hk
        rcases List.mem_append.1 hk with hk | hk
        · exact h1 k hk
        · rw [List.mem_singleton.1 hk]; exact pickOf_lt c hm
    · split
      · exact h2
      · rename_i hn
        refine List.nodup_append.2 ⟨h2, (by simp), fun x hx y hy e => ?_⟩
        rw [List.mem_singleton.1 hy] at e
        exact hn (e ▸ hx)
theorem keepOf_lt (l : List Int) (m : Nat) : ∀ k ∈ keepOf l m, k < m := by
  unfold keepOf
  split
  · simp
  · exact (keepTo_fold m (by omega) _ [] (by simp) List.nodup_nil).1
theorem keepOf_nodup (l : List Int) (m : Nat) : (keepOf l m).Nodup := by
  unfold keepOf
  split
  · exact List.nodup_nil
  · exact (keepTo_fold m (by omega) _ [] (by simp) List.nodup_nil).2
theorem lastOf_cases (k : List UInt8) (ws : List (Nat × List UInt8)) (a : Nat) : lastOf k ws a = k ∨ ∃ p ∈ ws, p.1 = a ∧ lastOf k ws a = p.2 := by
  induction ws generalizing k with
  | nil => exact .inl rfl
  | cons w r ih =>
    have e : lastOf k (w :: r) a = lastOf (if w.1 = a then w.2 else k) r a := rfl
    rw [e]
    rcases ih (if w.1 = a then w.2 else k) with h | ⟨p, hp, h1, h2⟩
    · by_cases hw : w.1 = a
      · rw [if_pos hw] at h ⊢
        exact .inr ⟨w, List.mem_cons_self, hw, h⟩
      · rw [if_neg hw] at h ⊢
        exact .inl h
    · exact .inr ⟨p, List.mem_cons_of_mem _ hp, h1, h2⟩
theorem str_ne {a b : ByteArray} (h : a ≠ b) : (a.toList == b.toList) = false := by
  rw [beq_eq_false_iff_ne, Go.Lib.toList_data, Go.Lib.toList_data]
  intro e
  exact h (ByteArray.ext (Array.toList_inj.1 e))
theorem str_of {a b : List UInt8} : (((⟨a.toArray⟩ : ByteArray)).toList == ((⟨b.toArray⟩ : ByteArray)).toList) = (a == b) := by
  rw [Go.Lib.toList_data, Go.Lib.toList_data]
end Wire
namespace Go.Proofs.Ytepdncpgcpndoaa
open Go Go.RowKit Wire
theorem layW_at (K : List (List UInt8)) (C : List (Nat × List UInt8)) (i : Nat) (h : i < K.length) : (layW K C)[i]'(by rw [layW_length]; exact h) = lastOf K[i] C i := by
  have := layW_get K C i
  rw [List.getElem?_eq_getElem h, List.getElem?_eq_getElem (by rw [layW_length]; exact h)] at this
  exact Option.some.inj this
/-- Read, and Keep, of disks as they stand -/
theorem read1 {B r kb : Nat} {W : World} {pv : Value} {k : List (List UInt8)} {p : List (Nat × List UInt8)} {c : Bool} {l : Nat} (h : DAt B W r kb pv ⟨k, p, c, l⟩) (at' : Nat) (ha : at' < k.length) (hn : p.length ≤ 100000) :
    Calls Try.prog 16 #[.pointer (some ⟨r, 0, none⟩), .int .i64 (at' : Int)] W fun x W' => x = .returned (.tuple #[.string ⟨((layW k p)[at']'(by rw [layW_length]; exact ha)).toArray⟩, .int .i64 0]) ∧ Below W.heap.size W W' :=
  read_now h at' ha hn
theorem keep1 {w W : World} {L : List Dk} (h : St w L W) (kv : Value) (ks : List Int) (hl : ks.length ≤ maxLen) (hk : Lies w kv ks.length 1 (ks.map (Value.int .i64))) (hg : ∀ c ∈ ks, -9223372036854775808 ≤ c ∧ c ≤ 9223372036854775807) (m : Nat) (hm : m ≤ 100000) :
    Calls Try.prog 14 #[kv, .int .i64 (m : Int)] W fun x W' => ∃ v, x = .returned v ∧ W'.ownsRow w.heap.size 3 1 v (keepOf ks m).length (ints (keepOf ks m)) ∧ St w L W' :=
  (keep_any kv ks hl m hm W (hk.below h.2) hg).mono fun _ _ ⟨v, hx, ho, hb⟩ => ⟨v, hx, owned_base ho h.hz, h.below hb⟩
end Go.Proofs.Ytepdncpgcpndoaa

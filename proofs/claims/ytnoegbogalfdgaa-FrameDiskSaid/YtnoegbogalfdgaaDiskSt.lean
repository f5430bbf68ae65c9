/- What a law's walk has of disks: those that it made, and nothing else has changed. -/
import Derived.Test.YtnoegbogalfdgaaDiskMany
set_option linter.unusedSimpArgs false
set_option linter.unusedVariables false
namespace Go.Proofs.Ytnoegbogalfdgaa
open Go Go.RowKit Wire

def St (w : World) (L : List Dk) (W : World) : Prop := Dks w.heap.size W L ∧ Below w.heap.size w W
section
variable {w W W' : World} {L : List Dk} {x y : Dk} {r kb : Nat} {pv pv' : Value} {d d' : DS}
theorem St.nil (w : World) : St w [] w := ⟨Dks.nil (Nat.le_refl _), Below.refl _ _⟩
theorem St.hz (h : St w L W) : w.heap.size ≤ W.heap.size := h.1.1
theorem St.below (h : St w L W) (hb : Below W.heap.size W W') : St w L W' := ⟨h.1.below hb, h.2.trans (hb.mono h.2.size)⟩
theorem St.alloc (h : St w L W) (o : Obj) : St w L (W.alloc o) := h.below ((Below.refl _ _).alloc (Nat.le_refl _) o)
theorem St.drew (h : St w L W) : St w L W.drew := h.below ((Below.refl _ _).drew)
theorem St.new (h : St w L W) (hb : Below W.heap.size W W') (hd : DAt W.heap.size W' r kb pv d) : St w (L ++ [⟨r, kb, pv, d⟩]) W' := ⟨h.1.new hb hd, h.2.trans (hb.mono h.2.size)⟩
theorem St.d1 (h : St w (⟨r, kb, pv, d⟩ :: L) W) : DAt w.heap.size W r kb pv d := h.1.2.1 ⟨r, kb, pv, d⟩ (by simp)
theorem St.d2 (h : St w (x :: ⟨r, kb, pv, d⟩ :: L) W) : DAt w.heap.size W r kb pv d := h.1.2.1 ⟨r, kb, pv, d⟩ (by simp)
theorem St.d3 (h : St w (x :: y :: ⟨r, kb, pv, d⟩ :: L) W) : DAt w.heap.size W r kb pv d := h.1.2.1 ⟨r, kb, pv, d⟩ (by simp)
theorem St.do1 (h : St w (⟨r, kb, pv, d⟩ :: L) W) (hd : Did w.heap.size W W' r kb pv pv' d') : St w (⟨r, kb, pv', d'⟩ :: L) W' := ⟨Dks.did (L1 := []) h.1 hd, h.2.trans hd.below⟩
theorem St.do2 (h : St w (x :: ⟨r, kb, pv, d⟩ :: L) W) (hd : Did w.heap.size W W' r kb pv pv' d') : St w (x :: ⟨r, kb, pv', d'⟩ :: L) W' := ⟨Dks.did (L1 := [x]) h.1 hd, h.2.trans hd.below⟩
theorem St.do3 (h : St w (x :: y :: ⟨r, kb, pv, d⟩ :: L) W) (hd : Did w.heap.size W W' r kb pv pv' d') : St w (x :: y :: ⟨r, kb, pv', d'⟩ :: L) W' := ⟨Dks.did (L1 := [x, y]) h.1 hd, h.2.trans hd.below⟩
/-- the first of them is not needed any more -/
theorem St.tail (h : St w (x :: L) W) : St w L W := ⟨⟨h.1.1, fun y hy => h.1.2.1 y (List.mem_cons_of_mem _ hy), (List.pairwise_cons.1 h.1.2.2).2⟩, h.2⟩
end

/-- a block of another type is none of a disk's -/
theorem Did.foreign {B r kb b : Nat} {W W' : World} {pv pv' : Value} {d d' : DS} {c : Array Value} {t : TypeId} (h : Did B W W' r kb pv pv' d') (h0 : DAt B W r kb pv d) (hb : W.heap[b]? = some (.cells c t (0, 0))) (ht : t ≠ 56 ∧ t ≠ 63 ∧ t ≠ 65) : W'.heap[b]? = some (.cells c t (0, 0)) := by
  have ty : ∀ {c' : Array Value} {t' : TypeId}, W.heap[b]? = some (.cells c' t' (0, 0)) → t = t' := fun h' => by
    have := congrArg (fun o => match o with | some (Obj.cells _ t _) => t | _ => 0) (hb.symm.trans h')
    simpa using this
  refine (h.only.block b (Array.getElem?_eq_some_iff.1 hb).1 (fun e => ?_) (fun e => ?_) (fun e => ?_)).trans hb
  · subst e; exact ht.1 (ty h0.box)
  · subst e; exact ht.2.1 (ty h0.kept)
  · obtain ⟨cur, hc⟩ := h0.pblock e; exact ht.2.2 (ty hc)
theorem blk_below {B b : Nat} {W W' : World} {o : Obj} (h : Below B W W') (hb : W.heap[b]? = some o) (hlt : b < B) : W'.heap[b]? = some o := (h.block b hlt).trans hb

section
variable {B r kb : Nat} {W : World} {pv : Value} {k : List (List UInt8)} {p : List (Nat × List UInt8)} {c : Bool} {l : Nat}
/-- Write, Sync, Crash of a disk whose power is not cut -/
theorem write1 (h : DAt B W r kb pv ⟨k, p, false, l⟩) (hz : B ≤ W.heap.size) (at' : Nat) (ha : at' < k.length) (s : List UInt8) (hs : s.length = 64) (hn : p.length ≤ 100000) :
    Calls Try.prog 9 #[.pointer (some ⟨r, 0, none⟩), .int .i64 (at' : Int), .string ⟨s.toArray⟩] W fun x W' => x = .returned (.int .i64 0) ∧ ∃ pv', Did B W W' r kb pv pv' ⟨k, p ++ [(at', s)], false, l⟩ :=
  write_ok h (.inl rfl) hz at' ha ⟨s.toArray⟩ (by show s.toArray.size = 64; rw [List.size_toArray]; exact hs) hn
theorem sync1 (h : DAt B W r kb pv ⟨k, p, false, l⟩) (hz : B ≤ W.heap.size) (hn : p.length ≤ 100000) :
    Calls Try.prog 10 #[.pointer (some ⟨r, 0, none⟩)] W fun x W' => x = .returned (.int .i64 0) ∧ Did B W W' r kb pv (.slice none 0 0) ⟨layW k p, [], false, l⟩ :=
  sync_ok h (.inl rfl) hz hn
/-- a power loss; what is kept stands in a row of the caller's own -/
theorem crash1 (h : DAt B W r kb pv ⟨k, p, c, l⟩) (hz : B ≤ W.heap.size) (hn : p.length ≤ 100000) (kv : Value) (ks : List Nat) (hkl : ks.length ≤ 100000) (hrow : W.ownsRow B 3 1 kv ks.length (ints ks)) (hlt : ∀ x ∈ ks, x < p.length) (hnd : ks.Nodup) :
    Calls Try.prog 18 #[.pointer (some ⟨r, 0, none⟩), kv] W fun x W' => x = .returned (.int .i64 0) ∧ Did B W W' r kb pv (.slice none 0 0) ⟨layW k (ks.filterMap fun x => p[x]?), [], false, 0⟩ :=
  crash_ok h hz hn kv ks hkl hrow hlt hnd
/-- a literal of whole numbers is a row of the caller's own -/
theorem row_new (w : World) (B : Nat) (hB : B ≤ w.heap.size) (ks : List Int) (hk : ks.length ≤ 100000) : (w.alloc (.cells (ks.map (Value.int .i64)).toArray 3)).ownsRow B 3 1 (.slice (some ⟨w.heap.size, 0, none⟩) ks.length ks.length) ks.length (ks.map (Value.int .i64)) :=
  ⟨by simp, .inr ⟨w.heap.size, ks.length, (ks.map (Value.int .i64)).toArray, rfl, hB, World.alloc_heap_new w _, Nat.le_refl _, by unfold maxLen; omega, by simp, by rw [Nat.mul_one]; exact List.take_of_length_le (by simp)⟩⟩
theorem crash0 (h : DAt B W r kb pv ⟨k, p, c, l⟩) (hz : B ≤ W.heap.size) (hn : p.length ≤ 100000) :
    Calls Try.prog 18 #[.pointer (some ⟨r, 0, none⟩), .slice none 0 0] W fun x W' => x = .returned (.int .i64 0) ∧ Did B W W' r kb pv (.slice none 0 0) ⟨k, [], false, 0⟩ :=
  crash1 h hz hn _ [] (by simp) (World.ownsRow_nil _ _ _ _) (by simp) List.nodup_nil
end
/-- what turns a row of another type leaves the disks -/
theorem St.grown {w W W' : World} {L : List Dk} {row : Option Nat} (h : St w L W) (hg : W.grownBy W' row) (hr : ∀ q, row = some q → w.heap.size ≤ q ∧ ∃ cur t, W.heap[q]? = some (.cells cur t (0, 0)) ∧ t ≠ 56 ∧ t ≠ 63 ∧ t ≠ 65) : St w L W' := by
  have ty : ∀ {k : Nat} {c c' : Array Value} {t t' : TypeId}, W.heap[k]? = some (.cells c t (0, 0)) → W.heap[k]? = some (.cells c' t' (0, 0)) → t = t' := fun h h' => by
    have := congrArg (fun o => match o with | some (Obj.cells _ t _) => t | _ => 0) (h.symm.trans h')
    simpa using this
  have keep : ∀ (k : Nat) (c : Array Value) (t : TypeId), W.heap[k]? = some (.cells c t (0, 0)) → t = 56 ∨ t = 63 ∨ t = 65 → W'.heap[k]? = W.heap[k]? := fun k c t hk ht => hg.block k (Array.getElem?_eq_some_iff.1 hk).1 (fun e => by
    obtain ⟨_, cur, t', hq, h1, h2, h3⟩ := hr k e.symm
    have := ty hk hq
    subst this
    rcases ht with ht | ht | ht
    · exact h1 ht
    · exact h2 ht
    · exact h3 ht)
  refine ⟨⟨Nat.le_trans h.hz hg.size, fun x hx => ?_, h.1.2.2⟩, ⟨hg.os.trans h.2.os, hg.tape.trans h.2.tape, hg.output.trans h.2.output, Nat.le_trans h.2.size hg.size, fun k hk => (hg.block k (Nat.lt_of_lt_of_le hk h.2.size) (fun e => by have := (hr k e.symm).1; omega)).trans (h.2.block k hk)⟩⟩
  have hd := h.1.2.1 x hx
  exact hd.blocks (keep _ _ _ hd.box (.inl rfl)) (keep _ _ _ hd.kept (.inr (.inl rfl))) (fun q hq => by obtain ⟨cur, hc⟩ := hd.pblock hq; exact keep _ _ _ hc (.inr (.inr rfl)))
/-- a row of the walk's own has a block of its own -/
theorem owned_block {W : World} {B : Nat} {e : TypeId} {size n : Nat} {v : Value} {xs : List Value} (h : W.ownsRow B e size v n xs) {q : Nat} (hq : v.ownBlock = some q) : B ≤ q ∧ ∃ cur, W.heap[q]? = some (.cells cur e (0, 0)) := by
  rcases h.2 with ⟨rfl, _⟩ | ⟨g, cap, cur, rfl, hg, hb, _⟩
  · cases hq
  · simp [Value.ownBlock] at hq
    subst hq
    exact ⟨hg, cur, hb⟩
/-- a row of whole numbers is none of a disk's blocks -/
theorem Did.row {B r kb : Nat} {W W' : World} {pv pv' v : Value} {d d' : DS} {b n : Nat} {xs : List Value} (h : Did B W W' r kb pv pv' d') (h0 : DAt B W r kb pv d) (ho : W.ownsRow b 3 1 v n xs) : W'.ownsRow b 3 1 v n xs := by
  refine ⟨ho.1, ?_⟩
  rcases ho.2 with hv | ⟨g, cap, cur, hv, hg, hc, r⟩
  · exact .inl hv
  · exact .inr ⟨g, cap, cur, hv, hg, h.foreign h0 hc (by decide), r⟩
theorem cell_keep {W W1 : World} {b o : Nat} {v : Value} (hb : Below W.heap.size W W1) (h : W.cell? ⟨b, o, none⟩ = some v) : W1.cell? ⟨b, o, none⟩ = some v :=
  (hb.cell (p := ⟨b, o, none⟩) (World.block_lt_of_cell? _ _ h)).trans h
theorem layW_at (K : List (List UInt8)) (C : List (Nat × List UInt8)) (i : Nat) (h : i < K.length) : (layW K C)[i]'(by rw [layW_length]; exact h) = lastOf K[i] C i := by
  have := layW_get K C i
  rw [List.getElem?_eq_getElem h, List.getElem?_eq_getElem (by rw [layW_length]; exact h)] at this
  exact Option.some.inj this
/-- Read, and Keep, of disks as they stand -/
theorem read1 {B r kb : Nat} {W : World} {pv : Value} {k : List (List UInt8)} {p : List (Nat × List UInt8)} {c : Bool} {l : Nat} (h : DAt B W r kb pv ⟨k, p, c, l⟩) (at' : Nat) (ha : at' < k.length) (hn : p.length ≤ 100000) :
    Calls Try.prog 12 #[.pointer (some ⟨r, 0, none⟩), .int .i64 (at' : Int)] W fun x W' => x = .returned (.tuple #[.string ⟨((layW k p)[at']'(by rw [layW_length]; exact ha)).toArray⟩, .int .i64 0]) ∧ Below W.heap.size W W' :=
  read_now h at' ha hn
end Go.Proofs.Ytnoegbogalfdgaa

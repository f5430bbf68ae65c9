/- (*reader).number, where the place is none of the text's. -/
import Derived.Test.YtffoklhopmhjaaaGreatDoorWireNumber
set_option linter.unusedSimpArgs false
set_option linter.unusedVariables false
namespace Go.Proofs.YtffoklhopmhjaaaGreatDoor
open Go Go.RowKit Go.Shelf Go.Sort
attribute [local go_sem] Oper.semAt_some

set_option maxRecDepth 100000 in
set_option maxHeartbeats 1000000 in
theorem bytes1_out (n : Nat) (l R Bx : Nat) (s : ByteArray) (p : Int) (hp : p < 0 ∨ (s.size : Int) ≤ p) (W : World)
    (c1 : W.cell? ⟨Bx, 0, none⟩ = some (.pointer (some ⟨R, 0, none⟩))) (c2 : W.cell? ⟨R, 0, none⟩ = some (.string s)) (c3 : W.cell? ⟨R, 1, none⟩ = some (.int .i64 p)) :
    CallsIn Fence.wide n Tryz.prog 92 #[.func (.yield l) #[] #[], .pointer (some ⟨Bx, 0, none⟩)] W fun e W' => (∃ v, e = .returned v) ∧ ∃ m, W' = W.drewN m := by
  refine callsIn_of_wp Tryz.func92 rfl trivial ?_ rfl
  simp only [Tryz.ntmps92, List.size_toArray, List.length_cons, List.length_nil, Nat.reduceAdd, Nat.reduceSub, Array.replicate_succ, Array.replicate_zero, List.push_toArray, List.append_toArray, List.nil_append, List.cons_append]
  gi_wp2
  gi_loopg [] (0 : Nat) (fun _ wr => wr = W)
  case atStart => rfl
  case round =>
    subst hrel
    by_cases h : p < 0
    · have d1 : decide ((0 : Int) ≤ p) = false := by simp; omega
      gi_wp2
      gi_big_quiet_th (fail)
      gi_wp2
      go_end0
      exact ⟨⟨_, rfl⟩, nq, rfl⟩
    · have d1 : decide ((0 : Int) ≤ p) = true := by simp; omega
      have d2 : decide (p < (s.size : Int)) = false := by simp; omega
      gi_wp2
      gi_big_quiet_th (fail)
      gi_wp2
      go_end0
      exact ⟨⟨_, rfl⟩, nq, rfl⟩

set_option maxRecDepth 100000 in
set_option maxHeartbeats 2000000 in
theorem number_out (s : ByteArray) (R : Nat) (a0 : Int) (ha : a0 < 0 ∨ (s.size : Int) ≤ a0) (ea : Addr) (w : World) (hR : ReaderAt w R s a0)
    (hE : w.cell? ⟨0, 0, none⟩ = some (.iface 180 (.pointer (some ea)))) (hR0 : R ≠ 0) :
    CallsIn Fence.wide 9 Tryz.prog 57 #[.pointer (some ⟨R, 0, none⟩)] w fun e w' => w.grownBy w' (some R) ∧ e = .returned (.tuple #[.int .i64 0, .iface 180 (.pointer (some ea))]) ∧ ∃ q, ReaderAt w' R s q := by
  refine callsIn_of_wp_marks Tryz.func57 rfl trivial ?_ rfl
  simp only [Tryz.ntmps57, List.size_toArray, List.length_cons, List.length_nil, Nat.reduceAdd, Nat.reduceSub, Array.replicate_succ, Array.replicate_zero, List.push_toArray, List.append_toArray, List.nil_append, List.cons_append]
  have hlt : R < w.heap.size := hR.lt
  have hmix : Tryz.prog.follows .mixedOrders = true := by kernel_rfl
  have k1 : ∀ o1 o2 o3, (((w.alloc o1).alloc o2).alloc o3).cell? ⟨R, 1, none⟩ = some (.int .i64 a0) := fun o1 o2 o3 =>
    (((((Below.refl w.heap.size w).alloc (Nat.le_refl _) o1).alloc (by simp) o2).alloc (by simp; omega) o3).cell (p := ⟨R, 1, none⟩) hlt).trans hR.cell1
  gi_wp2
  refine wpIn_scope_wide ?_
  gi_wp2
  refine wpIn_label ?_
  gi_wp2_with (refine ⟨trivial, ?_⟩; gi_at_call 79; refine (bytes_in _ _ trivial rfl _ _).mono ?_; rintro e w' ⟨rfl, rfl⟩)
  have hrise : Vars.rising ⟨R, w.heap.size, w.heap.size + 1, w.heap.size + 1 + 1, w.heap.size + 1 + 1 + 1, w.heap.size + 1 + 1 + 1 + 1, w.heap.size + 1 + 1 + 1 + 1 + 1, w.heap.size + 1 + 1 + 1 + 1 + 1 + 1, w.heap.size + 1 + 1 + 1 + 1 + 1 + 1 + 1⟩ := by
    simp only [Vars.rising]; omega
  have hI := numI_start w R s a0 hR
  show Code.wpIn _ _ _ _ _ _ (numBlocks w R a0)
  generalize numBlocks w R a0 = W0 at hI ⊢
  clear k1
  generalize w.heap.size + 1 + 1 + 1 + 1 + 1 + 1 + 1 = b7 at hrise hI ⊢
  generalize w.heap.size + 1 + 1 + 1 + 1 + 1 + 1 = b6 at hrise hI ⊢
  generalize w.heap.size + 1 + 1 + 1 + 1 + 1 = b5 at hrise hI ⊢
  generalize w.heap.size + 1 + 1 + 1 + 1 = b4 at hrise hI ⊢
  generalize w.heap.size + 1 + 1 + 1 = b3 at hrise hI ⊢
  generalize w.heap.size + 1 + 1 = b2 at hrise hI ⊢
  generalize w.heap.size + 1 = b1 at hrise hI ⊢
  generalize hb0 : w.heap.size = b0 at hrise hI ⊢
  have HB := Lib.hid hb0; clear hb0
  refine wpIn_rangeFunc_joint rfl (by decide) (gf := 92) (lb := #[.pointer (some ⟨b7, 0, none⟩)]) rfl trivial (enters_of Tryz.func92 (by kernel_rfl) rfl)
    (fun x : { p : Nat // p < s.size } => #[.int .u8 ((s[x.1]'x.2).toNat : Int)]) (fun _ => rfl)
    (fun _ _ => False) (fun _ _ => False) (fun _ _ _ => False) (fun _ W => ∃ q, numE ⟨R, b0, b1, b2, b3, b4, b5, b6, b7⟩ w s q 0 W) (fun _ _ _ _ h _ _ => h) (fun _ _ _ _ h _ _ => h) (fun _ _ _ _ _ h _ _ => h) ?od
    (fun x => { tmps := #[.pointer (some ⟨R, 0, none⟩), .pointer (some ⟨b0, 0, none⟩), .pointer (some ⟨b1, 0, none⟩), .pointer (some ⟨b2, 0, none⟩), .pointer (some ⟨b3, 0, none⟩), .pointer (some ⟨b4, 0, none⟩), .pointer (some ⟨b5, 0, none⟩), .pointer (some ⟨b6, 0, none⟩), .int .u8 ((s[x.1]'x.2).toNat : Int), undef, .pointer (some ⟨R, 0, none⟩), .pointer (some ⟨R, 0, none⟩), .pointer (some ⟨R, 0, none⟩), .pointer (some ⟨R, 1, none⟩), .int .i64 a0, .pointer (some ⟨R, 0, none⟩), .pointer (some ⟨R, 0, none⟩), .pointer (some ⟨R, 0, none⟩), .func (.func 92) #[] #[.pointer (some ⟨b7, 0, none⟩)], .int .u8 ((s[x.1]'x.2).toNat : Int), undef, undef, undef, undef, undef, undef, undef, undef, undef, undef, undef, undef, undef, undef, undef, undef, undef, undef, undef, undef, undef, undef, undef, undef, undef, undef, undef, undef, undef, undef, undef, undef, undef, undef, undef, undef, undef, undef, undef, undef], defers := [] }) ?assign ?body ?seq ?done ?stop
  case assign =>
    intro l x W K hK
    gi_wp2
    exact hK
  case body =>
    intro l x W h
    exact h.elim
  case od =>
    intro x A B row ⟨q, h4⟩ hg hr
    exact ⟨q, numE_own h4 hg (fun r e => ⟨Nat.le_trans hI.grown.size (hr r e).1, (hr r e).2⟩)⟩
  case seq =>
    intro l K Jx W hKB hK hgr hY
    have hn := hI.own hgr (fun r e => by cases e)
    refine (bytes1_out 8 l R b7 s a0 ha W hn.x7.cell hn.reader.cell0 hn.reader.cell1).mono ?_
    rintro e W' ⟨hv, m, rfl⟩
    have hm := hn.drewN m
    exact ⟨hv, .inl ⟨⟨_, hm.grown, hm.reader, hm.x1, hm.x2⟩, hKB.drewN hK m⟩⟩
  case done =>
    rintro D W hD ⟨q, hg, hr, h1, h2⟩ hKd
    have hev : W.cell? ⟨0, 0, none⟩ = some (.iface 180 (.pointer (some ea))) := (World.cell?_of_block (hg.block 0 (by have := World.block_lt_of_cell? _ _ hE; exact this) (by simpa using hR0.symm))).trans hE
    have hrise' := hrise
    obtain ⟨q0, q1, q2, q3, q4, q5, q6, q7⟩ := hrise'
    dsimp only at q0 q1 q2 q3 q4 q5 q6 q7
    have hw0 : w.heap.size ≤ b0 := by rw [HB.out]; exact Nat.le_refl _
    have hb0 : 0 < w.heap.size := World.block_lt_of_cell? _ _ hE
    have n01 : (0 : Nat) ≠ b1 := by omega
    have n10 : b1 ≠ 0 := by omega
    have n12 : b1 ≠ b2 := by omega
    have n21 : b2 ≠ b1 := by omega
    have y1 := h1.cell
    have y2 := h2.cell
    have z1 := h1.frozen
    have z2 := h2.frozen
    dsimp only at y1 y2 z1 z2
    have f1 : w.grownBy (((W.setCell ⟨b1, 0, none⟩ (.int .i64 0)).setCell ⟨b2, 0, none⟩ (.iface 180 (.pointer (some ea)))).drew) (some R) := grown_below (grown_set (grown_set hg (b := b1) (by omega) ⟨b1, 0, none⟩ rfl (.int .i64 0)) (b := b2) (by omega) ⟨b2, 0, none⟩ rfl (.iface 180 (.pointer (some ea)))) ⟨rfl, rfl, rfl, Nat.le_refl _, fun _ _ => rfl⟩
    have f2 : ReaderAt (((W.setCell ⟨b1, 0, none⟩ (.int .i64 0)).setCell ⟨b2, 0, none⟩ (.iface 180 (.pointer (some ea)))).drew) R s q := (hr.past ⟨b1, 0, none⟩ (by show R ≠ b1; omega) _).past ⟨b2, 0, none⟩ (by show R ≠ b2; omega) _
    have f3 : Boxed (((W.setCell ⟨b1, 0, none⟩ (.int .i64 0)).setCell ⟨b2, 0, none⟩ (.iface 180 (.pointer (some ea)))).drew) b1 3 (.int .i64 0) := boxed_past (h1.set (.int .i64 0)) ⟨b2, 0, none⟩ (by show b1 ≠ b2; omega) _
    have f4 : Boxed (((W.setCell ⟨b1, 0, none⟩ (.int .i64 0)).setCell ⟨b2, 0, none⟩ (.iface 180 (.pointer (some ea)))).drew) b2 86 (.iface 180 (.pointer (some ea))) := (boxed_past h2 ⟨b1, 0, none⟩ (by show b2 ≠ b1; omega) _).set _
    have f5 : (((W.setCell ⟨b1, 0, none⟩ (.int .i64 0)).setCell ⟨b2, 0, none⟩ (.iface 180 (.pointer (some ea)))).drew).heap[D]? = some (.deferred (some [])) := ((KeepsOthers.setCell _ _ _).trans (KeepsOthers.setCell _ _ _)).same D _ hKd rfl
    have F5 := Lib.hid f5
    clear q0 q1 q2 q3 q4 q5 q6 q7 hw0 hb0 f5
    gi_wp2
    gi_region
    all_goals
      gi_wp2
      refine ⟨by simp, .inl ⟨_, _, rfl, run_takeDeferred F5.out, ?_⟩⟩
      exact ⟨_, number_results _ _ b1 b2 0 _ rfl rfl (boxed_put f3 _ F5.out rfl).cell (boxed_put f4 _ F5.out rfl).cell, grown_put f1 (Nat.le_trans hI.grown.size hD) _, rfl, q, reader_put f2 _ F5.out rfl⟩
  case stop =>
    intro D c x W hD h _
    exact h.elim
end Go.Proofs.YtffoklhopmhjaaaGreatDoor

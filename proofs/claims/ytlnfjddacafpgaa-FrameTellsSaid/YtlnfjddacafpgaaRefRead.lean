/- The reference's Read. -/
import Derived.BigRegion
import Derived.StillTailTactics
import Derived.Deep.RegionHeld3
import Derived.Test.YtlnfjddacafpgaaRefLay
import Derived.Test.YtlnfjddacafpgaaFrameReadOf
namespace Go.Proofs.Ytlnfjddacafpgaa
open Go Go.RowKit Wire

set_option maxHeartbeats 1000000 in
theorem refRead_short (s : ByteArray) (h : s.size ≠ 64) (w : World) :
    Calls Try.prog 38 #[.string s] w fun x w' => x = noFrame ∧ Below w.heap.size w w' := by
  have d1 : ((s.size : Int) == 64) = false := by rw [beq_eq_false_iff_ne]; omega
  have d1' : ((s.size : Int) != 64) = true := by rw [bne, d1]; rfl
  go_enter Try.func38, Try.ntmps38
  go_wp2_with fail
  exact bodyPost_ret (v := .tuple #[frameV 0 0 0 ⟨#[]⟩, .int .i64 120]) (by simp [results, Try.results38, go_sem]) rfl ⟨rfl, (Below.refl _ w).alloc (Nat.le_refl _) _⟩

set_option maxHeartbeats 1000000 in
theorem refRead_long (s : ByteArray) (ha : 63 < s.size) (hb : s.size ≤ 64) (h5 : 53 < (s[5]'(by omega)).toNat) (w : World) :
    Calls Try.prog 38 #[.string s] w fun x w' => x = noFrame ∧ Below w.heap.size w w' := by
  have d1 : ((s.size : Int) == 64) = true := by rw [beq_iff_eq]; omega
  have d1' : ((s.size : Int) != 64) = false := by rw [bne, d1]; rfl
  have d2 : 5 < s.size := by omega
  generalize hz : s[5] = z at h5
  have HZ := Lib.hid hz
  have hz2 := z.toNat_lt
  go_enter Try.func38, Try.ntmps38
  go_wp2_with fail
  exact bodyPost_ret (v := .tuple #[frameV 0 0 0 ⟨#[]⟩, .int .i64 120]) (by simp [results, Try.results38, go_sem]) rfl ⟨rfl, (Below.refl _ w).alloc (Nat.le_refl _) _⟩

set_option maxRecDepth 100000 in
set_option maxHeartbeats 2000000 in
theorem refRead_body (s : ByteArray) (ha : 63 < s.size) (hb : s.size ≤ 64) (h5 : (s[5]'(by omega)).toNat ≤ 53) (E A K : Nat) (T : ByteArray)
    (hE : E = (s[0]'(by omega)).toNat * 65536 + (s[1]'(by omega)).toNat * 256 + (s[2]'(by omega)).toNat) (hA : A = (s[3]'(by omega)).toNat) (hK : K = (s[4]'(by omega)).toNat) (hT : T = s.extract 7 (7 + (s[5]'(by omega)).toNat)) (w : World) :
    Calls Try.prog 38 #[.string s] w (ReadSays s E A K T w) := by
  have d1 : ((s.size : Int) == 64) = true := by rw [beq_iff_eq]; omega
  have d1' : ((s.size : Int) != 64) = false := by rw [bne, d1]; rfl
  have d2 : 5 < s.size := by omega
  have i0 : 0 < s.size := by omega
  have i1 : 1 < s.size := by omega
  have i2 : 2 < s.size := by omega
  have i3 : 3 < s.size := by omega
  have i4 : 4 < s.size := by omega
  generalize hz : s[5] = z at h5 hT
  generalize hz0 : s[0] = z0 at hE
  generalize hz1 : s[1] = z1 at hE
  generalize hz2 : s[2] = z2 at hE
  generalize hz3 : s[3] = z3 at hA
  generalize hz4 : s[4] = z4 at hK
  have l5 := z.toNat_lt
  have l0 := z0.toNat_lt
  have l1 := z1.toNat_lt
  have l2 := z2.toNat_lt
  have l3 := z3.toNat_lt
  have l4 := z4.toNat_lt
  have HE := Lib.hid hE; clear hE
  have HA := Lib.hid hA; clear hA
  have HK := Lib.hid hK; clear hK
  have HT := Lib.hid hT; clear hT
  go_enter Try.func38, Try.ntmps38
  go_wp2_with fail
  have hbx : (w.alloc (.cells #[.int .i64 0, .int .i64 0, .int .i64 0, .string ⟨#[]⟩] 23)).heap[w.heap.size]? = some (.cells #[.int .i64 0, .int .i64 0, .int .i64 0, .string ⟨#[]⟩] 23 (0, 0)) := World.alloc_heap_new w _
  have hB : Below w.heap.size w (w.alloc (.cells #[.int .i64 0, .int .i64 0, .int .i64 0, .string ⟨#[]⟩] 23)) := (Below.refl _ w).alloc (Nat.le_refl _) _
  generalize w.alloc (.cells #[.int .i64 0, .int .i64 0, .int .i64 0, .string ⟨#[]⟩] 23) = W at hbx hB ⊢
  have j1 : (7 : Int) + (z.toNat : Int) ≤ (s.size : Int) := by omega
  have j2 : (7 : Int) ≤ 7 + (z.toNat : Int) := by omega
  have j3 : (0 : Int) ≤ 7 + (z.toNat : Int) := by omega
  have j4 : ((7 : Int) + (z.toNat : Int)).toNat = 7 + z.toNat := by omega
  have i1' : (1 : Int) < (s.size : Int) := by omega
  have i2' : (2 : Int) < (s.size : Int) := by omega
  have i3' : (3 : Int) < (s.size : Int) := by omega
  have i4' : (4 : Int) < (s.size : Int) := by omega
  have i5' : (5 : Int) < (s.size : Int) := by omega
  have k0 : IntKind.i64.wrap (z0.toNat : Int) = (z0.toNat : Int) := IntWalk.i64_in _ (by omega)
  have k1 : IntKind.i64.wrap (z1.toNat : Int) = (z1.toNat : Int) := IntWalk.i64_in _ (by omega)
  have k2 : IntKind.i64.wrap (z2.toNat : Int) = (z2.toNat : Int) := IntWalk.i64_in _ (by omega)
  have k3 : IntKind.i64.wrap (z3.toNat : Int) = (z3.toNat : Int) := IntWalk.i64_in _ (by omega)
  have k4 : IntKind.i64.wrap (z4.toNat : Int) = (z4.toNat : Int) := IntWalk.i64_in _ (by omega)
  have k5 : IntKind.i64.wrap (z.toNat : Int) = (z.toNat : Int) := IntWalk.i64_in _ (by omega)
  have k6 : IntKind.i64.wrap ((z0.toNat : Int) * 65536) = (z0.toNat : Int) * 65536 := IntWalk.i64_in _ (by omega)
  have k7 : IntKind.i64.wrap ((z1.toNat : Int) * 256) = (z1.toNat : Int) * 256 := IntWalk.i64_in _ (by omega)
  have k8 : IntKind.i64.wrap ((z0.toNat : Int) * 65536 + (z1.toNat : Int) * 256) = (z0.toNat : Int) * 65536 + (z1.toNat : Int) * 256 := IntWalk.i64_in _ (by omega)
  have k9 : IntKind.i64.wrap ((z0.toNat : Int) * 65536 + (z1.toNat : Int) * 256 + (z2.toNat : Int)) = (z0.toNat : Int) * 65536 + (z1.toNat : Int) * 256 + (z2.toNat : Int) := IntWalk.i64_in _ (by omega)
  have k10 : IntKind.i64.wrap (7 + (z.toNat : Int)) = 7 + (z.toNat : Int) := IntWalk.i64_in _ (by omega)
  refine wp_region_held_drew (S := fun _ => True) (by kernel_rfl) trivial (fun hHeld => ?_)
  refine wpAnyH_take (i := 0) (v := ?v0) rfl (by kernel_rfl) (by kernel_rfl) (by kernel_rfl) (fun _ _ _ h => h) (Or.inl ⟨by rfl, ?y0⟩) trivial ?r0
  case y0 => (intro w hSw; go_simp; try with_reducible rfl)
  try simp only [Act.put, List.setIfInBounds_toArray, List.set_cons_zero, List.set_cons_succ]
  refine wpAnyH_take (i := 1) (v := ?v1) rfl (by kernel_rfl) (by kernel_rfl) (by kernel_rfl) (fun _ _ _ h => h) (Or.inl ⟨by rfl, ?y1⟩) trivial ?r1
  case y1 => (intro w hSw; go_simp; try with_reducible rfl)
  try simp only [Act.put, List.setIfInBounds_toArray, List.set_cons_zero, List.set_cons_succ]
  refine wpAnyH_take (i := 2) (v := ?v2) rfl (by kernel_rfl) (by kernel_rfl) (by kernel_rfl) (fun _ _ _ h => h) (Or.inl ⟨by rfl, ?y2⟩) trivial ?r2
  case y2 => (intro w hSw; go_simp; try with_reducible rfl)
  try simp only [Act.put, List.setIfInBounds_toArray, List.set_cons_zero, List.set_cons_succ]
  refine wpAnyH_take (i := 3) (v := ?v3) rfl (by kernel_rfl) (by kernel_rfl) (by kernel_rfl) (fun _ _ _ h => h) (Or.inl ⟨by rfl, ?y3⟩) trivial ?r3
  case y3 => (intro w hSw; go_simp; try with_reducible rfl)
  try simp only [Act.put, List.setIfInBounds_toArray, List.set_cons_zero, List.set_cons_succ]
  refine wpAnyH_take (i := 4) (v := ?v4) rfl (by kernel_rfl) (by kernel_rfl) (by kernel_rfl) (fun _ _ _ h => h) (Or.inl ⟨by rfl, ?y4⟩) trivial ?r4
  case y4 => (intro w hSw; go_simp; try with_reducible rfl)
  try simp only [Act.put, List.setIfInBounds_toArray, List.set_cons_zero, List.set_cons_succ]
  refine wpAnyH_take (i := 5) (v := ?v5) rfl (by kernel_rfl) (by kernel_rfl) (by kernel_rfl) (fun _ _ _ h => h) (Or.inl ⟨by rfl, ?y5⟩) trivial ?r5
  case y5 => (intro w hSw; go_simp; try with_reducible rfl)
  try simp only [Act.put, List.setIfInBounds_toArray, List.set_cons_zero, List.set_cons_succ]
  refine wpAnyH_take (i := 6) (v := ?v6) rfl (by kernel_rfl) (by kernel_rfl) (by kernel_rfl) (fun _ _ _ h => h) (Or.inl ⟨by rfl, ?y6⟩) trivial ?r6
  case y6 => (intro w hSw; go_simp; try with_reducible rfl)
  try simp only [Act.put, List.setIfInBounds_toArray, List.set_cons_zero, List.set_cons_succ]
  refine wpAnyH_take (i := 7) (v := ?v7) rfl (by kernel_rfl) (by kernel_rfl) (by kernel_rfl) (fun _ _ _ h => h) (Or.inl ⟨by rfl, ?y7⟩) trivial ?r7
  case y7 => (intro w hSw; go_simp; try with_reducible rfl)
  try simp only [Act.put, List.setIfInBounds_toArray, List.set_cons_zero, List.set_cons_succ]
  refine wpAnyH_take (i := 8) (v := ?v8) rfl (by kernel_rfl) (by kernel_rfl) (by kernel_rfl) (fun _ _ _ h => h) (Or.inl ⟨by rfl, ?y8⟩) trivial ?r8
  case y8 => (intro w hSw; go_simp; try with_reducible rfl)
  try simp only [Act.put, List.setIfInBounds_toArray, List.set_cons_zero, List.set_cons_succ]
  refine wpAnyH_take (i := 9) (v := ?v9) rfl (by kernel_rfl) (by kernel_rfl) (by kernel_rfl) (fun _ _ _ h => h) (Or.inl ⟨by rfl, ?y9⟩) trivial ?r9
  case y9 => (intro w hSw; go_simp; try with_reducible rfl)
  try simp only [Act.put, List.setIfInBounds_toArray, List.set_cons_zero, List.set_cons_succ]
  refine wpAnyH_take (i := 10) (v := ?v10) rfl (by kernel_rfl) (by kernel_rfl) (by kernel_rfl) (fun _ _ _ h => h) (Or.inl ⟨by rfl, ?y10⟩) trivial ?r10
  case y10 => (intro w hSw; go_simp; try with_reducible rfl)
  try simp only [Act.put, List.setIfInBounds_toArray, List.set_cons_zero, List.set_cons_succ]
  refine wpAnyH_take (i := 11) (v := ?v11) rfl (by kernel_rfl) (by kernel_rfl) (by kernel_rfl) (fun _ _ _ h => h) (Or.inl ⟨by rfl, ?y11⟩) trivial ?r11
  case y11 => (intro w hSw; go_simp; try with_reducible rfl)
  try simp only [Act.put, List.setIfInBounds_toArray, List.set_cons_zero, List.set_cons_succ]
  refine wpAnyH_take (i := 12) (v := ?v12) rfl (by kernel_rfl) (by kernel_rfl) (by kernel_rfl) (fun _ _ _ h => h) (Or.inl ⟨by rfl, ?y12⟩) trivial ?r12
  case y12 => (intro w hSw; go_simp; try with_reducible rfl)
  try simp only [Act.put, List.setIfInBounds_toArray, List.set_cons_zero, List.set_cons_succ]
  refine wpAnyH_take (i := 13) (v := ?v13) rfl (by kernel_rfl) (by kernel_rfl) (by kernel_rfl) (fun _ _ _ h => h) (Or.inl ⟨by rfl, ?y13⟩) trivial ?r13
  case y13 => (intro w hSw; go_simp; try with_reducible rfl)
  try simp only [Act.put, List.setIfInBounds_toArray, List.set_cons_zero, List.set_cons_succ]
  refine wpAnyH_take (i := 14) (v := ?v14) rfl (by kernel_rfl) (by kernel_rfl) (by kernel_rfl) (fun _ _ _ h => h) (Or.inl ⟨by rfl, ?y14⟩) trivial ?r14
  case y14 => (intro w hSw; go_simp; try with_reducible rfl)
  try simp only [Act.put, List.setIfInBounds_toArray, List.set_cons_zero, List.set_cons_succ]
  refine wpAnyH_take (i := 15) (v := ?v15) rfl (by kernel_rfl) (by kernel_rfl) (by kernel_rfl) (fun _ _ _ h => h) (Or.inl ⟨by rfl, ?y15⟩) trivial ?r15
  case y15 => (intro w hSw; go_simp; try with_reducible rfl)
  try simp only [Act.put, List.setIfInBounds_toArray, List.set_cons_zero, List.set_cons_succ]
  refine wpAnyH_take (i := 16) (v := ?v16) rfl (by kernel_rfl) (by kernel_rfl) (by kernel_rfl) (fun _ _ _ h => h) (Or.inl ⟨by rfl, ?y16⟩) trivial ?r16
  case y16 => (intro w hSw; go_simp; try with_reducible rfl)
  try simp only [Act.put, List.setIfInBounds_toArray, List.set_cons_zero, List.set_cons_succ]
  refine wpAnyH_take (i := 17) (v := ?v17) rfl (by kernel_rfl) (by kernel_rfl) (by kernel_rfl) (fun _ _ _ h => h) (Or.inl ⟨by rfl, ?y17⟩) trivial ?r17
  case y17 => (intro w hSw; go_simp; try with_reducible rfl)
  try simp only [Act.put, List.setIfInBounds_toArray, List.set_cons_zero, List.set_cons_succ]
  refine wpAnyH_take (i := 18) (v := ?v18) rfl (by kernel_rfl) (by kernel_rfl) (by kernel_rfl) (fun _ _ _ h => h) (Or.inl ⟨by rfl, ?y18⟩) trivial ?r18
  case y18 => (intro w hSw; go_simp; try with_reducible rfl)
  try simp only [Act.put, List.setIfInBounds_toArray, List.set_cons_zero, List.set_cons_succ]
  refine wpAnyH_take (i := 19) (v := ?v19) rfl (by kernel_rfl) (by kernel_rfl) (by kernel_rfl) (fun _ _ _ h => h) (Or.inl ⟨by rfl, ?y19⟩) trivial ?r19
  case y19 => (intro w hSw; go_simp; try with_reducible rfl)
  try simp only [Act.put, List.setIfInBounds_toArray, List.set_cons_zero, List.set_cons_succ]
  refine wpAnyH_take (i := 20) (v := ?v20) rfl (by kernel_rfl) (by kernel_rfl) (by kernel_rfl) (fun _ _ _ h => h) (Or.inl ⟨by rfl, ?y20⟩) trivial ?r20
  case y20 => (intro w hSw; go_simp; try with_reducible rfl)
  try simp only [Act.put, List.setIfInBounds_toArray, List.set_cons_zero, List.set_cons_succ]
  refine wpAnyH_take (i := 21) (v := ?v21) rfl (by kernel_rfl) (by kernel_rfl) (by kernel_rfl) (fun _ _ _ h => h) (Or.inl ⟨by rfl, ?y21⟩) trivial ?r21
  case y21 => (intro w hSw; go_simp; try with_reducible rfl)
  try simp only [Act.put, List.setIfInBounds_toArray, List.set_cons_zero, List.set_cons_succ]
  refine wpAnyH_take (i := 22) (v := ?v22) rfl (by kernel_rfl) (by kernel_rfl) (by kernel_rfl) (fun _ _ _ h => h) (Or.inl ⟨by rfl, ?y22⟩) trivial ?r22
  case y22 => (intro w hSw; go_simp; try with_reducible rfl)
  try simp only [Act.put, List.setIfInBounds_toArray, List.set_cons_zero, List.set_cons_succ]
  refine wpAnyH_take (i := 23) (v := ?v23) rfl (by kernel_rfl) (by kernel_rfl) (by kernel_rfl) (fun _ _ _ h => h) (Or.inl ⟨by rfl, ?y23⟩) trivial ?r23
  case y23 => (intro w hSw; go_simp; try with_reducible rfl)
  try simp only [Act.put, List.setIfInBounds_toArray, List.set_cons_zero, List.set_cons_succ]
  refine wpAnyH_take (i := 24) (v := ?v24) rfl (by kernel_rfl) (by kernel_rfl) (by kernel_rfl) (fun _ _ _ h => h) (Or.inl ⟨by rfl, ?y24⟩) trivial ?r24
  case y24 => (intro w hSw; go_simp; try with_reducible rfl)
  try simp only [Act.put, List.setIfInBounds_toArray, List.set_cons_zero, List.set_cons_succ]
  refine wpAnyH_take (i := 25) (v := ?v25) rfl (by kernel_rfl) (by kernel_rfl) (by kernel_rfl) (fun _ _ _ h => h) (Or.inl ⟨by rfl, ?y25⟩) trivial ?r25
  case y25 => (intro w hSw; go_simp; try with_reducible rfl)
  try simp only [Act.put, List.setIfInBounds_toArray, List.set_cons_zero, List.set_cons_succ]
  refine wpAnyH_ready (rs := [26]) (by kernel_rfl) (by simp) ?_
  refine AllReadyH.cons (i := 26) rfl (fun K hK => ?_) AllReadyH.nil
  go_simp
  refine hK.out _ _ trivial (fun hHeld => ?_)
  clear hK K
  try simp only [Act.put, List.setIfInBounds_toArray, List.set_cons_zero, List.set_cons_succ]
  refine wpAnyH_ready (rs := [27]) (by kernel_rfl) (by simp) ?_
  refine AllReadyH.cons (i := 27) rfl (fun K hK => ?_) AllReadyH.nil
  go_simp
  refine hK.out _ _ trivial (fun hHeld => ?_)
  clear hK K
  try simp only [Act.put, List.setIfInBounds_toArray, List.set_cons_zero, List.set_cons_succ]
  refine wpAnyH_done (by kernel_rfl) ?_ _
  clear k0 k1 k2 k3 k4 k5 k6 k7 k8 k9 k10 i1' i2' i3' i4' i5'
  have he : (z0.toNat : Int) * 65536 + (z1.toNat : Int) * 256 + (z2.toNat : Int) = (E : Int) := by have := HE.out; omega
  rw [he, ← HA.out, ← HK.out, ← HT.out]
  have hlt : w.heap.size < W.heap.size := (Array.getElem?_eq_some_iff.1 hbx).1
  have hbx2 : (W.alloc (.cells #[.int .i64 E, .int .i64 A, .int .i64 K, .string T] 23)).drew.heap[w.heap.size]? = some (.cells #[.int .i64 0, .int .i64 0, .int .i64 0, .string ⟨#[]⟩] 23 (0, 0)) :=
    (show (W.alloc _).heap[w.heap.size]? = W.heap[w.heap.size]? from Go.heap_alloc_old W _ hlt).trans hbx
  have hbf : (W.alloc (.cells #[.int .i64 E, .int .i64 A, .int .i64 K, .string T] 23)).drew.heap[W.heap.size]? = some (.cells #[.int .i64 E, .int .i64 A, .int .i64 K, .string T] 23 (0, 0)) := World.alloc_heap_new W _
  have hB2 : Below w.heap.size w (W.alloc (.cells #[.int .i64 E, .int .i64 A, .int .i64 K, .string T] 23)).drew := (hB.alloc (by omega) _).drew
  generalize (W.alloc (.cells #[.int .i64 E, .int .i64 A, .int .i64 K, .string T] 23)).drew = W2 at hbx2 hbf hB2 ⊢
  generalize W.heap.size = B at hbf hlt ⊢
  clear hz hz0 hz1 hz2 hz3 hz4
  clear he hbx hB W j1 j2 j3 j4 i0 i1 i2 i3 i4 HE HA HK HT l0 l1 l2 l3 l4 h5
  have hne : w.heap.size ≠ B := by omega
  have hne' : B ≠ w.heap.size := by omega
  have cf : ∀ i, W2.cell? ⟨B, i, none⟩ = #[.int .i64 E, .int .i64 A, .int .i64 K, .string T][i]? := fun i => cell_of_row _ _ i _ _ (0, 0) hbf
  have cf0 : W2.cell? ⟨B, 0, none⟩ = some (.int .i64 E) := cf 0
  have cf1 : W2.cell? ⟨B, 1, none⟩ = some (.int .i64 A) := cf 1
  have cf2 : W2.cell? ⟨B, 2, none⟩ = some (.int .i64 K) := cf 2
  have cf3 : W2.cell? ⟨B, 3, none⟩ = some (.string T) := cf 3
  clear cf
  cases hr : Frame.right E A K T.data.toList with
  | false =>
    go_wp2_with fail
    refine (refLay_bad E A K T hr _).mono ?_
    rintro x W3 ⟨rfl, hB3⟩
    clear cf0 cf1 cf2 cf3
    have hbx3 := (hB3.block _ (Array.getElem?_eq_some_iff.1 hbx2).1).trans hbx2
    have hB4 := hB2.trans (hB3.mono hB2.size)
    have c0 : W3.cell? ⟨w.heap.size, 0, none⟩ = some (.int .i64 0) := cell_of_row _ _ 0 _ _ (0, 0) hbx3
    have c1 : W3.cell? ⟨w.heap.size, 1, none⟩ = some (.int .i64 0) := cell_of_row _ _ 1 _ _ (0, 0) hbx3
    have c2 : W3.cell? ⟨w.heap.size, 2, none⟩ = some (.int .i64 0) := cell_of_row _ _ 2 _ _ (0, 0) hbx3
    have c3 : W3.cell? ⟨w.heap.size, 3, none⟩ = some (.string ⟨#[]⟩) := cell_of_row _ _ 3 _ _ (0, 0) hbx3
    have f0 : W3.frozen? ⟨w.heap.size, 0, none⟩ = false := frozen_of_row _ _ 0 _ _ hbx3
    have f1 : W3.frozen? ⟨w.heap.size, 1, none⟩ = false := frozen_of_row _ _ 1 _ _ hbx3
    have f2 : W3.frozen? ⟨w.heap.size, 2, none⟩ = false := frozen_of_row _ _ 2 _ _ hbx3
    have f3 : W3.frozen? ⟨w.heap.size, 3, none⟩ = false := frozen_of_row _ _ 3 _ _ hbx3
    have HR := Lib.hid hr; clear hr
    have HX := Lib.hid hbx3
    clear hbx2 hbf hB2 hB3 hbx3
    go_wp2_with fail
    have hend := row4 HX.out (.int .i64 0) (.int .i64 0) (.int .i64 0) (.string ⟨#[]⟩)
    have hB5 := (((hB4.setCell (p := ⟨w.heap.size, 0, none⟩) (Nat.le_refl _) (.int .i64 0)).setCell (p := ⟨w.heap.size, 1, none⟩) (Nat.le_refl _) (.int .i64 0)).setCell (p := ⟨w.heap.size, 2, none⟩) (Nat.le_refl _) (.int .i64 0)).setCell (p := ⟨w.heap.size, 3, none⟩) (Nat.le_refl _) (.string ⟨#[]⟩)
    generalize ((((W3.setCell ⟨w.heap.size, 0, none⟩ (.int .i64 0)).setCell ⟨w.heap.size, 1, none⟩ (.int .i64 0)).setCell ⟨w.heap.size, 2, none⟩ (.int .i64 0)).setCell ⟨w.heap.size, 3, none⟩ (.string ⟨#[]⟩)) = W4 at hend hB5 ⊢
    have e0 := cell_of_row _ _ 0 _ _ (0, 0) hend
    have e1 := cell_of_row _ _ 1 _ _ (0, 0) hend
    have e2 := cell_of_row _ _ 2 _ _ (0, 0) hend
    have e3 := cell_of_row _ _ 3 _ _ (0, 0) hend
    exact bodyPost_ret (v := .tuple #[frameV 0 0 0 ⟨#[]⟩, .int .i64 120]) (by simp [results, Try.results38, go_sem, e0, e1, e2, e3]) rfl ⟨hB5, .inr ⟨.inl HR.out, rfl⟩⟩
  | true =>
    go_wp2_with fail
    refine (refLay_good E A K T hr _).mono ?_
    rintro x W3 ⟨rfl, hB3⟩
    clear cf0 cf1 cf2 cf3
    have hbx3 := (hB3.block _ (Array.getElem?_eq_some_iff.1 hbx2).1).trans hbx2
    have hB4 := hB2.trans (hB3.mono hB2.size)
    have c0 : W3.cell? ⟨w.heap.size, 0, none⟩ = some (.int .i64 0) := cell_of_row _ _ 0 _ _ (0, 0) hbx3
    have c1 : W3.cell? ⟨w.heap.size, 1, none⟩ = some (.int .i64 0) := cell_of_row _ _ 1 _ _ (0, 0) hbx3
    have c2 : W3.cell? ⟨w.heap.size, 2, none⟩ = some (.int .i64 0) := cell_of_row _ _ 2 _ _ (0, 0) hbx3
    have c3 : W3.cell? ⟨w.heap.size, 3, none⟩ = some (.string ⟨#[]⟩) := cell_of_row _ _ 3 _ _ (0, 0) hbx3
    have f0 : W3.frozen? ⟨w.heap.size, 0, none⟩ = false := frozen_of_row _ _ 0 _ _ hbx3
    have f1 : W3.frozen? ⟨w.heap.size, 1, none⟩ = false := frozen_of_row _ _ 1 _ _ hbx3
    have f2 : W3.frozen? ⟨w.heap.size, 2, none⟩ = false := frozen_of_row _ _ 2 _ _ hbx3
    have f3 : W3.frozen? ⟨w.heap.size, 3, none⟩ = false := frozen_of_row _ _ 3 _ _ hbx3
    have hbf3 := (hB3.block _ (Array.getElem?_eq_some_iff.1 hbf).1).trans hbf
    have g0 : W3.cell? ⟨B, 0, none⟩ = some (.int .i64 E) := cell_of_row _ _ 0 _ _ (0, 0) hbf3
    have g1 : W3.cell? ⟨B, 1, none⟩ = some (.int .i64 A) := cell_of_row _ _ 1 _ _ (0, 0) hbf3
    have g2 : W3.cell? ⟨B, 2, none⟩ = some (.int .i64 K) := cell_of_row _ _ 2 _ _ (0, 0) hbf3
    have g3 : W3.cell? ⟨B, 3, none⟩ = some (.string T) := cell_of_row _ _ 3 _ _ (0, 0) hbf3
    have HR := Lib.hid hr; clear hr
    have HX := Lib.hid hbx3
    clear hbx2 hbf hB2 hB3 hbx3 hbf3
    generalize hy : Frame.lay E A K T.data.toList = Y
    have HY := Lib.hid hy; clear hy
    by_cases hq : Y = s.data.toList
    · have q : (Y == s.toList) = true := by rw [beq_iff_eq, Lib.toList_data, hq]
      have HQ := Lib.hid hq; clear hq
      go_wp2_with fail
      have hend := row4 HX.out (.int .i64 E) (.int .i64 A) (.int .i64 K) (.string T)
      have hB5 := (((hB4.setCell (p := ⟨w.heap.size, 0, none⟩) (Nat.le_refl _) (.int .i64 E)).setCell (p := ⟨w.heap.size, 1, none⟩) (Nat.le_refl _) (.int .i64 A)).setCell (p := ⟨w.heap.size, 2, none⟩) (Nat.le_refl _) (.int .i64 K)).setCell (p := ⟨w.heap.size, 3, none⟩) (Nat.le_refl _) (.string T)
      generalize ((((W3.setCell ⟨w.heap.size, 0, none⟩ (.int .i64 E)).setCell ⟨w.heap.size, 1, none⟩ (.int .i64 A)).setCell ⟨w.heap.size, 2, none⟩ (.int .i64 K)).setCell ⟨w.heap.size, 3, none⟩ (.string T)) = W4 at hend hB5 ⊢
      have e0 := cell_of_row _ _ 0 _ _ (0, 0) hend
      have e1 := cell_of_row _ _ 1 _ _ (0, 0) hend
      have e2 := cell_of_row _ _ 2 _ _ (0, 0) hend
      have e3 := cell_of_row _ _ 3 _ _ (0, 0) hend
      exact bodyPost_ret (v := .tuple #[frameV E A K T, .int .i64 0]) (by simp [results, Try.results38, go_sem, e0, e1, e2, e3]) rfl ⟨hB5, .inl ⟨HR.out, HY.out.trans HQ.out, rfl⟩⟩
    · have q : (Y == s.toList) = false := by
        rw [beq_eq_false_iff_ne, Lib.toList_data]
        exact hq
      have HQ := Lib.hid hq; clear hq
      go_wp2_with fail
      have hend := row4 HX.out (.int .i64 0) (.int .i64 0) (.int .i64 0) (.string ⟨#[]⟩)
      have hB5 := (((hB4.setCell (p := ⟨w.heap.size, 0, none⟩) (Nat.le_refl _) (.int .i64 0)).setCell (p := ⟨w.heap.size, 1, none⟩) (Nat.le_refl _) (.int .i64 0)).setCell (p := ⟨w.heap.size, 2, none⟩) (Nat.le_refl _) (.int .i64 0)).setCell (p := ⟨w.heap.size, 3, none⟩) (Nat.le_refl _) (.string ⟨#[]⟩)
      generalize ((((W3.setCell ⟨w.heap.size, 0, none⟩ (.int .i64 0)).setCell ⟨w.heap.size, 1, none⟩ (.int .i64 0)).setCell ⟨w.heap.size, 2, none⟩ (.int .i64 0)).setCell ⟨w.heap.size, 3, none⟩ (.string ⟨#[]⟩)) = W4 at hend hB5 ⊢
      have e0 := cell_of_row _ _ 0 _ _ (0, 0) hend
      have e1 := cell_of_row _ _ 1 _ _ (0, 0) hend
      have e2 := cell_of_row _ _ 2 _ _ (0, 0) hend
      have e3 := cell_of_row _ _ 3 _ _ (0, 0) hend
      exact bodyPost_ret (v := .tuple #[frameV 0 0 0 ⟨#[]⟩, .int .i64 120]) (by simp [results, Try.results38, go_sem, e0, e1, e2, e3]) rfl ⟨hB5, .inr ⟨.inr (by rw [HY.out]; exact HQ.out), rfl⟩⟩
/-- what no frame lays is none -/
theorem refRead_none (s : ByteArray) (h : ∀ (e a k : Nat) (t : List UInt8), Frame.right e a k t = true → Frame.lay e a k t ≠ s.data.toList) (w : World) :
    Calls Try.prog 38 #[.string s] w fun x w' => x = noFrame ∧ Below w.heap.size w w' := by
  by_cases hs : s.size = 64
  · by_cases h5 : (s[5]'(by omega)).toNat ≤ 53
    · refine (refRead_body s (by omega) (by omega) h5 _ _ _ _ rfl rfl rfl rfl w).mono ?_
      rintro x w' ⟨hB, ⟨h1, h2, _⟩ | ⟨_, rfl⟩⟩
      · exact (h _ _ _ _ h1 h2).elim
      · exact ⟨rfl, hB⟩
    · exact refRead_long s (by omega) (by omega) (by omega) w
  · exact refRead_short s hs w

/-- what a frame lays is that frame -/
theorem refRead_some (e a k : Nat) (t : ByteArray) (h : Frame.right e a k t.data.toList = true) (w : World) :
    Calls Try.prog 38 #[.string ⟨(Frame.lay e a k t.data.toList).toArray⟩] w fun x w' => x = .returned (.tuple #[frameV e a k t, .int .i64 0]) ∧ Below w.heap.size w w' := by
  have hr : e ≤ 16777215 ∧ a < 64 ∧ k ≤ 4 ∧ t.data.toList.length ≤ 53 := by
    unfold Frame.right at h
    rw [decide_eq_true_eq] at h
    omega
  obtain ⟨he, ha, hk, ht⟩ := hr
  have hsz : (⟨(Frame.lay e a k t.data.toList).toArray⟩ : ByteArray).size = 64 := by
    show (Frame.lay e a k t.data.toList).toArray.size = 64
    rw [List.size_toArray]
    exact Frame.lay_length e a k _ ht
  have g : ∀ (i : Nat) (hi : i < (⟨(Frame.lay e a k t.data.toList).toArray⟩ : ByteArray).size) (x : UInt8), (Frame.lay e a k t.data.toList)[i]? = some x → (⟨(Frame.lay e a k t.data.toList).toArray⟩ : ByteArray)[i] = x := fun i hi x hx => by
    have hi' : i < (Frame.lay e a k t.data.toList).length := by rw [Frame.lay_length e a k _ ht]; omega
    rw [List.getElem?_eq_getElem hi'] at hx
    exact Option.some.inj hx
  have g0 := g 0 (by omega) (UInt8.ofNat (e / 65536 % 256)) rfl
  have g1 := g 1 (by omega) (UInt8.ofNat (e / 256 % 256)) rfl
  have g2 := g 2 (by omega) (UInt8.ofNat (e % 256)) rfl
  have g3 := g 3 (by omega) (UInt8.ofNat a) rfl
  have g4 := g 4 (by omega) (UInt8.ofNat k) rfl
  have g5 := g 5 (by omega) (UInt8.ofNat t.data.toList.length) rfl
  have h5 : ((⟨(Frame.lay e a k t.data.toList).toArray⟩ : ByteArray)[5]'(by omega)).toNat = t.data.toList.length := by rw [g5, Frame.ofNat_toNat (by omega)]
  have hT : t = (⟨(Frame.lay e a k t.data.toList).toArray⟩ : ByteArray).extract 7 (7 + ((⟨(Frame.lay e a k t.data.toList).toArray⟩ : ByteArray)[5]'(by omega)).toNat) := by
    rw [h5]
    apply ByteArray.ext
    apply Array.toList_inj.1
    have e1 : Frame.lay e a k t.data.toList = (Frame.big3 e ++ [UInt8.ofNat a, UInt8.ofNat k, UInt8.ofNat t.data.toList.length, 0]) ++ (t.data.toList ++ (List.replicate (53 - t.data.toList.length) 0 ++ Frame.big4 (Wire.crc (Frame.body e a k t.data.toList)))) := by
      simp [Frame.lay, Frame.body]
    have e2 : ((⟨(Frame.lay e a k t.data.toList).toArray⟩ : ByteArray).extract 7 (7 + t.data.toList.length)).data.toList = ((Frame.lay e a k t.data.toList).drop 7).take t.data.toList.length := by
      rw [ByteArray.data_extract, Array.toList_extract, List.extract_eq_take_drop]
      congr 1; omega
    rw [e2, e1, List.drop_left' (by simp [Frame.big3]), List.take_left' rfl]
  refine (refRead_body _ (by omega) (by omega) (by rw [h5]; exact ht) e a k t ?_ ?_ ?_ hT w).mono ?_
  · rw [g0, g1, g2, Frame.ofNat_toNat (by omega), Frame.ofNat_toNat (by omega), Frame.ofNat_toNat (by omega)]; omega
  · rw [g3, Frame.ofNat_toNat (by omega)]
  · rw [g4, Frame.ofNat_toNat (by omega)]
  · rintro x w' ⟨hB, ⟨_, _, rfl⟩ | ⟨h1 | h1, _⟩⟩
    · exact ⟨rfl, hB⟩
    · rw [h] at h1; cases h1
    · exact (h1 rfl).elim
end Go.Proofs.Ytlnfjddacafpgaa

/- awake of the disk's law: it answers true, and nothing that was there has changed. -/
import Derived.Test.YtepdncpgcpndoaaDiskState
set_option linter.unusedSimpArgs false
set_option linter.unusedVariables false
namespace Go.Proofs.Ytepdncpgcpndoaa
open Go Go.RowKit Wire

set_option maxRecDepth 100000 in
set_option maxHeartbeats 8000000 in
theorem awake_any (w : World) : Calls Try.prog 11 #[] w fun x w' => x = .returned (.bool true) ∧ Below w.heap.size w w' := by
  obtain ⟨fa, hfa⟩ : ∃ f, f = fullOf [97] := ⟨_, rfl⟩
  have la : fa.length = 64 := by rw [hfa]; exact fullOf_length _
  have Fa : ∀ W : World, Calls Try.prog 18 #[.string ⟨#[97]⟩] W fun x W' => x = .returned (.string ⟨fa.toArray⟩) ∧ Below W.heap.size W W' := fun W => by rw [hfa]; exact full_any ⟨#[97]⟩ (by decide) W
  obtain ⟨fb, hfb⟩ : ∃ f, f = fullOf [98] := ⟨_, rfl⟩
  have lb : fb.length = 64 := by rw [hfb]; exact fullOf_length _
  have Fb : ∀ W : World, Calls Try.prog 18 #[.string ⟨#[98]⟩] W fun x W' => x = .returned (.string ⟨fb.toArray⟩) ∧ Below W.heap.size W W' := fun W => by rw [hfb]; exact full_any ⟨#[98]⟩ (by decide) W
  obtain ⟨fc, hfc⟩ : ∃ f, f = fullOf [99] := ⟨_, rfl⟩
  have lc : fc.length = 64 := by rw [hfc]; exact fullOf_length _
  have Fc : ∀ W : World, Calls Try.prog 18 #[.string ⟨#[99]⟩] W fun x W' => x = .returned (.string ⟨fc.toArray⟩) ∧ Below W.heap.size W W' := fun W => by rw [hfc]; exact full_any ⟨#[99]⟩ (by decide) W
  obtain ⟨fx, hfx⟩ : ∃ f, f = fullOf [120] := ⟨_, rfl⟩
  have lx : fx.length = 64 := by rw [hfx]; exact fullOf_length _
  have Fx : ∀ W : World, Calls Try.prog 18 #[.string ⟨#[120]⟩] W fun x W' => x = .returned (.string ⟨fx.toArray⟩) ∧ Below W.heap.size W W' := fun W => by rw [hfx]; exact full_any ⟨#[120]⟩ (by decide) W
  obtain ⟨z, hz⟩ : ∃ z : List UInt8, z = List.replicate 64 0 := ⟨_, rfl⟩
  have lz : z.length = 64 := by rw [hz]; simp
  have Fz : ∀ W : World, Calls Try.prog 18 #[.string ⟨#[]⟩] W fun x W' => x = .returned (.string ⟨z.toArray⟩) ∧ Below W.heap.size W W' := fun W => by
    have h := full_any ⟨#[]⟩ (by decide) W
    have e : fullOf (⟨#[]⟩ : ByteArray).data.toList = z := by rw [hz]; rfl
    rwa [e] at h
  have hzz : zeros 2 = ⟨[z, z], [], false, 0⟩ := by rw [hz]; rfl
  obtain ⟨q, hq⟩ : ∃ q, q = z.set 2 3 := ⟨_, rfl⟩
  have hq3 : z.set 2 (0 ^^^ UInt8.ofNat 3) = q := by rw [hq]; rfl
  have hz2 : z[2]? = some 0 := by rw [hz]; rfl
  have hqn : (⟨q.toArray⟩ : ByteArray).size = 64 := by show q.toArray.size = 64; rw [List.size_toArray, hq, List.length_set, lz]
  have hq2 : ∀ h : 2 < (⟨q.toArray⟩ : ByteArray).size, ((((⟨q.toArray⟩ : ByteArray)[2]'h).toNat : Nat) : Int) = 3 := by
    rw [hq, hz]; intro h; rfl
  have HLa := Lib.hid la
  have HLb := Lib.hid lb
  have HLc := Lib.hid lc
  have HLx := Lib.hid lx
  have HLz := Lib.hid lz
  have HZZ := Lib.hid hzz
  have HQ3 := Lib.hid hq3
  have HZ2 := Lib.hid hz2
  have HQN := Lib.hid hqn
  have HQ2 := Lib.hid hq2
  have HFa := Lib.hid Fa
  have HFb := Lib.hid Fb
  have HFc := Lib.hid Fc
  have HFx := Lib.hid Fx
  have HFz := Lib.hid Fz
  clear hfa la Fa hfb lb Fb hfc lc Fc hfx lx Fx hz lz Fz hzz hq hq3 hz2 hqn hq2
  go_enter Try.func11, Try.ntmps11
  have h0 := St.nil w
  go_wp2_with fail
  refine (new_ok 2 (by decide) (by decide) w.heap.size w (Nat.le_refl _)).mono ?_
  rintro x w1 ⟨r, kb, rfl, hD, hB, _, _⟩
  have h1 := h0.new hB hD
  clear h0 hB hD
  go_wp2_with fail
  refine (new_ok 2 (by decide) (by decide) w1.heap.size w1 (Nat.le_refl _)).mono ?_
  rintro x w2 ⟨r', kb', rfl, hD, hB, _, _⟩
  have h2 : St w [⟨r, kb, .slice none 0 0, ⟨[z, z], [], false, 0⟩⟩, ⟨r', kb', .slice none 0 0, ⟨[z, z], [], false, 0⟩⟩] w2 := by
    have := h1.new hB hD
    rw [HZZ.out] at this
    exact this
  clear h1 hB hD
  have hs : (w2.alloc (.cells #[.pointer (some ⟨r, 0, none⟩), .pointer (some ⟨r', 0, none⟩)] 25)).heap[w2.heap.size]? = some (.cells #[.pointer (some ⟨r, 0, none⟩), .pointer (some ⟨r', 0, none⟩)] 25 (0, 0)) := World.alloc_heap_new w2 _
  have h3 := h2.alloc (.cells #[.pointer (some ⟨r, 0, none⟩), .pointer (some ⟨r', 0, none⟩)] 25)
  have hsz : w.heap.size ≤ w2.heap.size := h2.hz
  clear h2
  go_wp2_with fail
  generalize w2.alloc (.cells #[.pointer (some ⟨r, 0, none⟩), .pointer (some ⟨r', 0, none⟩)] 25) = w3 at hs h3 ⊢
  generalize w2.heap.size = sb at hs hsz ⊢
  have hlp : ∃ pv pv', St w [⟨r, kb, pv, ⟨[z, z], if 0 < 0 then [(0, fa), (1, fb), (0, fc)] else [], false, 0⟩⟩, ⟨r', kb', pv', ⟨[z, z], if 1 < 0 then [(0, fa), (1, fb), (0, fc)] else [], false, 0⟩⟩] w3 := ⟨_, _, h3⟩
  clear h3
  go_loopw [36] (fun i wr => ∃ k : Nat, k ≤ 2 ∧ i = .int .i64 (k : Int) ∧ wr.heap[sb]? = some (.cells #[.pointer (some ⟨r, 0, none⟩), .pointer (some ⟨r', 0, none⟩)] 25 (0, 0)) ∧ ∃ pv pv', St w [⟨r, kb, pv, ⟨[z, z], if 0 < k then [(0, fa), (1, fb), (0, fc)] else [], false, 0⟩⟩, ⟨r', kb', pv', ⟨[z, z], if 1 < k then [(0, fa), (1, fb), (0, fc)] else [], false, 0⟩⟩] wr) (fun i _ => 2 - (intOf i).toNat)
  case atStart => exact ⟨0, Nat.zero_le _, rfl, hs, hlp⟩
  case round =>
    obtain ⟨k, hk, rfl, hs, pv, pv', hS⟩ := hrel
    clear hlp
    have hk3 : k = 0 ∨ k = 1 ∨ k = 2 := by omega
    rcases hk3 with rfl | rfl | rfl
    · simp only [show ¬ (0 < 0) from by decide, show ¬ (1 < 0) from by decide, if_false] at hS
      have c1 : wr.cell? ⟨sb, 0, none⟩ = some (.pointer (some ⟨r, 0, none⟩)) := cell_of_row _ _ 0 _ _ (0, 0) hs
      go_wp2_with fail
      refine (HFa.out _).mono ?_
      rintro x v ⟨rfl, hb⟩
      replace hs := blk_below hb hs (Array.getElem?_eq_some_iff.1 hs).1
      replace hS := hS.below hb
      clear hb
      go_wp2_with fail
      refine (write1 hS.d1 hS.hz 0 (by simp) fa HLa.out (by simp)).mono ?_
      rintro x v' ⟨rfl, pv2, hd⟩
      replace hs := hd.foreign hS.d1 hs (by decide)
      replace hS := hS.do1 hd
      clear hd
      go_wp2_with fail
      refine (HFb.out _).mono ?_
      rintro x v ⟨rfl, hb⟩
      replace hs := blk_below hb hs (Array.getElem?_eq_some_iff.1 hs).1
      replace hS := hS.below hb
      clear hb
      go_wp2_with fail
      refine (write1 hS.d1 hS.hz 1 (by simp) fb HLb.out (by simp)).mono ?_
      rintro x v' ⟨rfl, pv2, hd⟩
      replace hs := hd.foreign hS.d1 hs (by decide)
      replace hS := hS.do1 hd
      clear hd
      go_wp2_with fail
      refine (HFc.out _).mono ?_
      rintro x v ⟨rfl, hb⟩
      replace hs := blk_below hb hs (Array.getElem?_eq_some_iff.1 hs).1
      replace hS := hS.below hb
      clear hb
      go_wp2_with fail
      refine (write1 hS.d1 hS.hz 0 (by simp) fc HLc.out (by simp)).mono ?_
      rintro x v' ⟨rfl, pv2, hd⟩
      replace hs := hd.foreign hS.d1 hs (by decide)
      replace hS := hS.do1 hd
      clear hd
      clear c1
      go_wp2_with fail
      exact ⟨⟨1, by omega, rfl, hs, _, _, hS⟩, by simp [intOf]⟩
    · simp only [show (0 < 1) from by decide, show ¬ (1 < 1) from by decide, if_false, if_true] at hS
      have c1 : wr.cell? ⟨sb, 1, none⟩ = some (.pointer (some ⟨r', 0, none⟩)) := cell_of_row _ _ 1 _ _ (0, 0) hs
      go_wp2_with fail
      refine (HFa.out _).mono ?_
      rintro x v ⟨rfl, hb⟩
      replace hs := blk_below hb hs (Array.getElem?_eq_some_iff.1 hs).1
      replace hS := hS.below hb
      clear hb
      go_wp2_with fail
      refine (write1 hS.d2 hS.hz 0 (by simp) fa HLa.out (by simp)).mono ?_
      rintro x v' ⟨rfl, pv2, hd⟩
      replace hs := hd.foreign hS.d2 hs (by decide)
      replace hS := hS.do2 hd
      clear hd
      go_wp2_with fail
      refine (HFb.out _).mono ?_
      rintro x v ⟨rfl, hb⟩
      replace hs := blk_below hb hs (Array.getElem?_eq_some_iff.1 hs).1
      replace hS := hS.below hb
      clear hb
      go_wp2_with fail
      refine (write1 hS.d2 hS.hz 1 (by simp) fb HLb.out (by simp)).mono ?_
      rintro x v' ⟨rfl, pv2, hd⟩
      replace hs := hd.foreign hS.d2 hs (by decide)
      replace hS := hS.do2 hd
      clear hd
      go_wp2_with fail
      refine (HFc.out _).mono ?_
      rintro x v ⟨rfl, hb⟩
      replace hs := blk_below hb hs (Array.getElem?_eq_some_iff.1 hs).1
      replace hS := hS.below hb
      clear hb
      go_wp2_with fail
      refine (write1 hS.d2 hS.hz 0 (by simp) fc HLc.out (by simp)).mono ?_
      rintro x v' ⟨rfl, pv2, hd⟩
      replace hs := hd.foreign hS.d2 hs (by decide)
      replace hS := hS.do2 hd
      clear hd
      clear c1
      go_wp2_with fail
      exact ⟨⟨2, by omega, rfl, hs, _, _, hS⟩, by simp [intOf]⟩
    · simp only [show (0 < 2) from by decide, show (1 < 2) from by decide, if_true] at hS
      clear hs
      go_wp2_with fail
      refine (pending_any hS.d1).mono ?_
      rintro x v ⟨rfl, rfl⟩
      go_wp2_with fail
      have hr := read_now hS.d1 0 (by simp) (by simp)
      have e : (⟨[z, z], [(0, fa), (1, fb), (0, fc)], false, 0⟩ : DS).now = [fc, fb] := rfl
      simp only [e, List.getElem_cons_zero] at hr
      clear e
      have HR := Lib.hid hr; clear hr
      refine HR.out.mono ?_
      rintro x v ⟨rfl, hb⟩
      replace hS := hS.below hb
      clear hb HR
      go_wp2_with fail
      refine (crash_bad (hS.alloc _).d1 (hS.alloc _).hz (by simp) _ [3] (by simp) (row_new _ _ hS.hz [3] (by simp)) [] (by simp) (fun i hi => absurd hi (by simp)) (by simp) List.nodup_nil (.inr (.inl (by simp)))).mono ?_
      rintro x v ⟨rfl, hd⟩
      replace hS := (hS.alloc _).do1 hd
      clear hd
      go_wp2_with fail
      refine (crash1 (hS.alloc _).d1 (hS.alloc _).hz (by simp) _ [2, 1] (by simp) (row_new _ _ hS.hz [2, 1] (by simp)) (by simp) (by simp)).mono ?_
      rintro x v ⟨rfl, hd⟩
      replace hS : St w [⟨r, kb, _, ⟨[fc, fb], [], false, 0⟩⟩, ⟨r', kb', _, ⟨[z, z], [(0, fa), (1, fb), (0, fc)], false, 0⟩⟩] _ := (hS.alloc _).do1 hd
      clear hd
      go_wp2_with fail
      refine (crash1 (hS.alloc _).d2 (hS.alloc _).hz (by simp) _ [2, 0] (by simp) (row_new _ _ hS.hz [2, 0] (by simp)) (by simp) (by simp)).mono ?_
      rintro x v ⟨rfl, hd⟩
      replace hS : St w [⟨r, kb, _, ⟨[fc, fb], [], false, 0⟩⟩, ⟨r', kb', _, ⟨[fa, z], [], false, 0⟩⟩] _ := (hS.alloc _).do2 hd
      clear hd
      go_wp2_with fail
      have hr := read_now hS.d1 0 (by simp) (by simp)
      have e : (⟨[fc, fb], [], false, 0⟩ : DS).now = [fc, fb] := rfl
      simp only [e, List.getElem_cons_zero] at hr
      clear e
      have HR := Lib.hid hr; clear hr
      refine HR.out.mono ?_
      rintro x v ⟨rfl, hb⟩
      replace hS := hS.below hb
      clear hb HR
      go_wp2_with fail
      have hr := read_now hS.d2 0 (by simp) (by simp)
      have e : (⟨[fa, z], [], false, 0⟩ : DS).now = [fa, z] := rfl
      simp only [e, List.getElem_cons_zero] at hr
      clear e
      have HR := Lib.hid hr; clear hr
      refine HR.out.mono ?_
      rintro x v ⟨rfl, hb⟩
      replace hS := hS.below hb
      clear hb HR
      go_wp2_with fail
      have hr := read_now hS.d2 1 (by simp) (by simp)
      have e : (⟨[fa, z], [], false, 0⟩ : DS).now = [fa, z] := rfl
      simp only [e, List.getElem_cons_zero, List.getElem_cons_succ] at hr
      clear e
      have HR := Lib.hid hr; clear hr
      refine HR.out.mono ?_
      rintro x v ⟨rfl, hb⟩
      replace hS := hS.below hb
      clear hb HR
      go_wp2_with fail
      refine (rot_ok hS.d2 1 (by simp) 2 3 (by decide) (by decide) 0 HZ2.out).mono ?_
      rintro x v ⟨rfl, hd⟩
      have hS2 := hS.do2 hd
      simp only [List.getElem_cons_succ, List.getElem_cons_zero, HQ3.out] at hS2
      replace hS : St w [⟨r, kb, _, ⟨[fc, fb], [], false, 0⟩⟩, ⟨r', kb', _, ⟨[fa, q], [], false, 0⟩⟩] _ := hS2
      clear hd hS2
      go_wp2_with fail
      have hr := read_now hS.d2 1 (by simp) (by simp)
      have e : (⟨[fa, q], [], false, 0⟩ : DS).now = [fa, q] := rfl
      simp only [e, List.getElem_cons_zero, List.getElem_cons_succ] at hr
      clear e
      have HR := Lib.hid hr; clear hr
      refine HR.out.mono ?_
      rintro x v ⟨rfl, hb⟩
      replace hS := hS.below hb
      clear hb HR
      go_wp2_with fail
      refine (new_bad 769 (.inr (by decide)) _).mono ?_
      rintro x v ⟨rfl, rfl⟩
      have hqn := HQN.out
      have hq2 := HQ2.out
      go_wp2_with fail
      refine (HFc.out _).mono ?_
      rintro x v ⟨rfl, hb⟩
      replace hS := hS.below hb
      clear hb
      go_wp2_with fail
      refine (HFc.out _).mono ?_
      rintro x v ⟨rfl, hb⟩
      replace hS := hS.below hb
      clear hb
      go_wp2_with fail
      refine (HFa.out _).mono ?_
      rintro x v ⟨rfl, hb⟩
      replace hS := hS.below hb
      clear hb
      go_wp2_with fail
      refine (HFz.out _).mono ?_
      rintro x v ⟨rfl, hb⟩
      replace hS := hS.below hb
      clear hb
      go_wp2_with fail
      refine (HFa.out _).mono ?_
      rintro x v ⟨rfl, hb⟩
      replace hS := hS.below hb
      clear hb
      go_wp2_with fail
      refine (write_bad hS.d1 2 ⟨fa.toArray⟩ (.inr (.inl (by simp)))).mono ?_
      rintro x v ⟨rfl, rfl⟩
      go_wp2_with fail
      refine (write_bad hS.d1 0 ⟨#[97]⟩ (.inr (.inr ⟨0, rfl, by simp, by decide⟩))).mono ?_
      rintro x v ⟨rfl, rfl⟩
      go_wp2_with fail
      refine (sync1 hS.d1 hS.hz (by simp)).mono ?_
      rintro x v ⟨rfl, hd⟩
      replace hS : St w [⟨r, kb, _, ⟨[fc, fb], [], false, 0⟩⟩, ⟨r', kb', _, ⟨[fa, q], [], false, 0⟩⟩] _ := hS.do1 hd
      clear hd
      go_wp2_with fail
      refine (size_any hS.d1).mono ?_
      rintro x v ⟨rfl, rfl⟩
      go_wp2_with fail
      refine (cutd_ok hS.d1 1 (by decide)).mono ?_
      rintro x v ⟨rfl, hd⟩
      replace hS : St w [⟨r, kb, _, ⟨[fc, fb], [], true, 1⟩⟩, ⟨r', kb', _, ⟨[fa, q], [], false, 0⟩⟩] _ := hS.do1 hd
      clear hd
      go_wp2_with fail
      refine (sync_ok hS.d1 (.inr (by simp)) hS.hz (by simp)).mono ?_
      rintro x v ⟨rfl, hd⟩
      replace hS : St w [⟨r, kb, _, ⟨[fc, fb], [], true, 0⟩⟩, ⟨r', kb', _, ⟨[fa, q], [], false, 0⟩⟩] _ := hS.do1 hd
      clear hd
      go_wp2_with fail
      refine (sync_off hS.d1 rfl rfl).mono ?_
      rintro x v ⟨rfl, rfl⟩
      go_wp2_with fail
      refine (HFx.out _).mono ?_
      rintro x v ⟨rfl, hb⟩
      replace hS := hS.below hb
      clear hb
      go_wp2_with fail
      refine (write_off hS.d1 rfl rfl 0 (by simp) ⟨fx.toArray⟩ (by show fx.toArray.size = 64; rw [List.size_toArray]; exact HLx.out)).mono ?_
      rintro x v ⟨rfl, rfl⟩
      go_wp2_with fail
      refine (crash1 hS.d1 hS.hz (by simp) _ [] (by simp) (World.ownsRow_nil _ _ _ _) (by simp) List.nodup_nil).mono ?_
      rintro x v ⟨rfl, hd⟩
      replace hS : St w [⟨r, kb, _, ⟨[fc, fb], [], false, 0⟩⟩, ⟨r', kb', _, ⟨[fa, q], [], false, 0⟩⟩] _ := hS.do1 hd
      clear hd
      go_wp2_with fail
      refine (sync1 hS.d1 hS.hz (by simp)).mono ?_
      rintro x v ⟨rfl, hd⟩
      replace hS : St w [⟨r, kb, _, ⟨[fc, fb], [], false, 0⟩⟩, ⟨r', kb', _, ⟨[fa, q], [], false, 0⟩⟩] _ := hS.do1 hd
      clear hd
      go_wp2_with fail
      clear hqn hq2
      go_ret
      exact ⟨rfl, hS.2⟩
end Go.Proofs.Ytepdncpgcpndoaa

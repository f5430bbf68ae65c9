/- The walk of DiskErrors. -/
import Derived.Test.YtepdncpgcpndoaaDiskAwake
import Derived.Test.YtepdncpgcpndoaaDiskFacts
set_option linter.unusedSimpArgs false
set_option linter.unusedVariables false
namespace Go.Proofs.Ytepdncpgcpndoaa
open Go Go.RowKit Wire

theorem nil_read (W : World) (a : Int) : Calls Try.prog 16 #[.pointer none, .int .i64 a] W fun x W' => x = .returned (.tuple #[.string ⟨#[]⟩, .int .i64 1]) ∧ Below W.heap.size W W' := by
  go_enter Try.func16, Try.ntmps16
  go_wp2_with fail
  refine wp_scope_straight ?_
  go_wp2_with fail
  unfold Exit.noGoto
  dsimp only
  first | (go_ret2; exact ⟨rfl, (Below.refl _ _).alloc (Nat.le_refl _) _⟩) | (go_ret; exact ⟨rfl, (Below.refl _ _).alloc (Nat.le_refl _) _⟩)

theorem nil_write (W : World) (a : Int) (s : ByteArray) : Calls Try.prog 21 #[.pointer none, .int .i64 a, .string s] W fun x W' => x = .returned (.int .i64 1) ∧ Below W.heap.size W W' := by
  go_enter Try.func21, Try.ntmps21
  go_wp2_with fail
  go_ret
  exact ⟨rfl, Below.refl _ _⟩

theorem nil_sync (W : World) : Calls Try.prog 20 #[.pointer none] W fun x W' => x = .returned (.int .i64 1) ∧ Below W.heap.size W W' := by
  go_enter Try.func20, Try.ntmps20
  go_wp2_with fail
  go_ret
  exact ⟨rfl, Below.refl _ _⟩

theorem nil_crash (W : World) (v : Value) : Calls Try.prog 13 #[.pointer none, v] W fun x W' => x = .returned (.int .i64 1) ∧ Below W.heap.size W W' := by
  go_enter Try.func13, Try.ntmps13
  go_wp2_with fail
  go_ret
  exact ⟨rfl, Below.refl _ _⟩

theorem nil_rot (W : World) (a b c : Int) : Calls Try.prog 22 #[.pointer none, .int .i64 a, .int .i64 b, .int .i64 c] W fun x W' => x = .returned (.int .i64 1) ∧ Below W.heap.size W W' := by
  go_enter Try.func22, Try.ntmps22
  go_wp2_with fail
  go_ret
  exact ⟨rfl, Below.refl _ _⟩

theorem nil_cut (W : World) (a : Int) : Calls Try.prog 23 #[.pointer none, .int .i64 a] W fun x W' => x = .returned (.int .i64 1) ∧ Below W.heap.size W W' := by
  go_enter Try.func23, Try.ntmps23
  go_wp2_with fail
  go_ret
  exact ⟨rfl, Below.refl _ _⟩

theorem nil_pending (W : World) : Calls Try.prog 15 #[.pointer none] W fun x W' => x = .returned (.int .i64 0) ∧ Below W.heap.size W W' := by
  go_enter Try.func15, Try.ntmps15
  go_wp2_with fail
  go_ret
  exact ⟨rfl, Below.refl _ _⟩

theorem nil_size (W : World) : Calls Try.prog 24 #[.pointer none] W fun x W' => x = .returned (.int .i64 0) ∧ Below W.heap.size W W' := by
  go_enter Try.func24, Try.ntmps24
  go_wp2_with fail
  go_ret
  exact ⟨rfl, Below.refl _ _⟩

theorem crash_two {B r kb : Nat} {W : World} {pv : Value} {k : List (List UInt8)} {p : List (Nat × List UInt8)} {c : Bool} {l : Nat} (h : DAt B W r kb pv ⟨k, p, c, l⟩) (hz : B ≤ W.heap.size) (hn : p.length ≤ 100000) (kv : Value) (q : Nat) (hq : q < p.length) (hrow : W.ownsRow B 3 1 kv 2 [.int .i64 (q : Int), .int .i64 (q : Int)]) :
    Calls Try.prog 13 #[.pointer (some ⟨r, 0, none⟩), kv] W fun x W' => x = .returned (.int .i64 21) ∧ Did B W W' r kb pv pv ⟨k, p, c, l⟩ := by
  refine crash_bad h hz hn kv [(q : Int), (q : Int)] (by simp) hrow [q] (by simp) (fun i hi => ?_) (fun k hk => ?_) (by simp) (.inr (.inr ⟨q, by simp, rfl⟩))
  · match i, hi with
    | 0, _ => rfl
  · rw [List.mem_singleton.1 hk]; exact hq
theorem pick1000 (c : Int) (hc : -9223372036854775808 ≤ c ∧ c ≤ 9223372036854775807) (w : World) :
    Calls Try.prog 17 #[.int .i64 c, .int .i64 1000] w fun x w' => x = .returned (.int .i64 (pickOf c 1000 : Int)) ∧ w = w' := pick_any c 1000 hc (by decide) (by decide) w

set_option maxRecDepth 100000 in
set_option maxHeartbeats 8000000 in
theorem diskErrors_walk (b0 : Option Addr) (n0 c0 : Nat) (ss : List Cl) (b1 : Option Addr) (n1 c1 : Nat) (ps : List Cl) (at' : Int) (s : ByteArray) (w : World)
    (hn0 : ss.length = n0) (_ : n0 ≤ c0) (_ : c0 ≤ maxLen) (hs : Lies w (.slice b0 n0 c0) n0 6 (ss.flatMap Cl.cells)) (hsg : ∀ c ∈ ss, c.good)
    (hn1 : ps.length = n1) (_ : n1 ≤ c1) (_ : c1 ≤ maxLen) (hp : Lies w (.slice b1 n1 c1) n1 6 (ps.flatMap Cl.cells)) (hpg : ∀ c ∈ ps, c.good)
    (hat : -9223372036854775808 ≤ at' ∧ at' ≤ 9223372036854775807) (hz : s.size ≤ maxLen) :
    Calls Try.prog 8 #[.slice b0 n0 c0, .slice b1 n1 c1, .int .i64 at', .string s] w fun x w' => x = .returned (.bool true) ∧ Below w.heap.size w w' := by
  subst hn0 hn1
  unfold maxLen at hz
  have hF : ∀ (W : World) (L : List Dk), St w L W → Calls Try.prog 12 #[.slice b0 ss.length c0, .slice b1 ps.length c1] W fun x W' => ∃ r kb qv, x = .returned (.pointer (some ⟨r, 0, none⟩)) ∧ St w (L ++ [⟨r, kb, qv, ⟨layW (zeros 6).kept (writes ss), writes ps, false, 0⟩⟩]) W' := fun W L h => fill1 h _ _ ss ps hs hp hsg hpg
  have hpl := writes_len ps
  have hkl : (layW (zeros 6).kept (writes ss)).length = 6 := layW_length _ _
  generalize layW (zeros 6).kept (writes ss) = K at hF hkl
  generalize writes ps = P at hF hpl
  have hlt := pickOf_lt at' (n := 1000) (by decide)
  have hpk := pick1000 at' hat
  have hpm : 0 < P.length → ∀ W, Calls Try.prog 17 #[.int .i64 at', .int .i64 (P.length : Int)] W fun x w' => x = .returned (.int .i64 (pickOf at' P.length : Int)) ∧ W = w' := fun h0 W => pick_any at' P.length hat h0 (by omega) W
  have hqm : 0 < P.length → pickOf at' P.length < P.length := fun h0 => pickOf_lt at' h0
  have hfl := full_any s hz
  obtain ⟨n, hn⟩ : ∃ n : Nat, n = min s.size 63 := ⟨_, rfl⟩
  have hn1 : n ≤ s.size := by omega
  have hn2 : n ≤ 63 := by omega
  have hmin : (if (63 : Int) < (s.size : Int) then (63 : Int) else (s.size : Int)) = (n : Int) := by split <;> omega
  generalize pickOf at' 1000 = p at hlt hpk
  generalize pickOf at' P.length = q at hpm hqm
  have hfz : (⟨(fullOf s.data.toList).toArray⟩ : ByteArray).size = 64 := by show (fullOf s.data.toList).toArray.size = 64; rw [List.size_toArray]; exact fullOf_length _
  generalize (⟨(fullOf s.data.toList).toArray⟩ : ByteArray) = f at hfl hfz
  have htz : (s.extract 0 n).size = n := by rw [ByteArray.size_extract]; omega
  have HF := Lib.hid hF
  have HKL := Lib.hid hkl
  have HPK := Lib.hid hpk
  have HPM := Lib.hid hpm
  have HQM := Lib.hid hqm
  have HFL := Lib.hid hfl
  have HFZ := Lib.hid hfz
  have HTZ := Lib.hid htz
  clear hF hs hp hsg hpg hkl hpk hpm hqm hfl hfz htz hn
  have h0 := St.nil w
  go_enter Try.func8, Try.ntmps8
  go_wp2_with fail
  refine (awake_any w).mono ?_
  rintro x w1 ⟨rfl, hb⟩
  have hS := h0.below hb
  clear h0 hb
  go_wp2_with fail
  refine (HF.out _ _ hS).mono ?_
  rintro x w2 ⟨r, kb, qv, rfl, hS⟩
  replace hS : St w [⟨r, kb, qv, ⟨K, P, false, 0⟩⟩] w2 := hS
  go_wp2_with fail
  refine (all1 hS.d1 (by omega)).mono ?_
  rintro x w5 ⟨rfl, hb⟩
  replace hS := hS.below hb
  clear hb
  obtain ⟨T, hT⟩ : ∃ T : ByteArray, T = ⟨(layW K P).flatten.toArray⟩ := ⟨_, rfl⟩
  rw [← hT]
  have HT := Lib.hid hT
  clear hT
  go_wp2_with fail
  refine (pending_any hS.d1).mono ?_
  rintro x v ⟨rfl, rfl⟩
  go_wp2_with fail
  refine (HPK.out _).mono ?_
  rintro x v ⟨rfl, rfl⟩
  go_wp2_with fail
  clear hmin
  refine (read_away hS.d1 _ (.inr (by rw [HKL.out]; omega))).mono ?_
  rintro x v ⟨rfl, hb⟩
  replace hS := hS.below hb
  clear hb
  go_wp2_with fail
  refine (HPK.out _).mono ?_
  rintro x v ⟨rfl, rfl⟩
  go_wp2_with fail
  refine (read_away hS.d1 _ (.inl (by omega))).mono ?_
  rintro x v ⟨rfl, hb⟩
  replace hS := hS.below hb
  clear hb
  go_wp2_with fail
  refine (HFL.out _).mono ?_
  rintro x v ⟨rfl, hb⟩
  replace hS := hS.below hb
  clear hb
  go_wp2_with fail
  refine (write_bad hS.d1 _ _ (.inr (.inl (by rw [HKL.out]; omega)))).mono ?_
  rintro x v ⟨rfl, rfl⟩
  go_wp2_with fail
  refine (write_bad hS.d1 0 _ (.inr (.inr ⟨0, rfl, by rw [HKL.out]; omega, by rw [HTZ.out]; omega⟩))).mono ?_
  rintro x v ⟨rfl, rfl⟩
  go_wp2_with fail
  have hs1 : (s.extract 0 n).size + f.size ≤ 9223372036854775807 := by rw [HTZ.out, HFZ.out]; omega
  have hs2 : (s.extract 0 n ++ f).size + (⟨#[97]⟩ : ByteArray).size ≤ 9223372036854775807 := by rw [ByteArray.size_append, HTZ.out, HFZ.out, show (⟨#[97]⟩ : ByteArray).size = 1 from rfl]; omega
  refine (HFL.out _).mono ?_
  rintro x v ⟨rfl, hb⟩
  replace hS := hS.below hb
  clear hb
  go_wp2_with fail
  have hs3 : (s.extract 0 n ++ f ++ (⟨#[97]⟩ : ByteArray)).size ≠ 64 := by rw [ByteArray.size_append, ByteArray.size_append, HTZ.out, HFZ.out, show (⟨#[97]⟩ : ByteArray).size = 1 from rfl]; omega
  refine (write_bad hS.d1 0 _ (.inr (.inr ⟨0, rfl, by rw [HKL.out]; omega, hs3⟩))).mono ?_
  rintro x v ⟨rfl, rfl⟩
  go_wp2_with fail
  clear hs1 hs2 hs3
  refine (HPK.out _).mono ?_
  rintro x v ⟨rfl, rfl⟩
  go_wp2_with fail
  refine (crash_bad (hS.alloc _).d1 (hS.alloc _).hz (by show P.length ≤ _; omega) _ [(P.length : Int) + (p : Int)] (by simp) (row_new _ _ hS.hz [(P.length : Int) + (p : Int)] (by simp)) [] (by simp) (fun i hi => absurd hi (by simp)) (by simp) List.nodup_nil (.inr (.inl (by show (P.length : Int) ≤ (P.length : Int) + (p : Int); omega)))).mono ?_
  rintro x v ⟨rfl, hd⟩
  replace hS := (hS.alloc _).do1 hd
  clear hd
  go_wp2_with fail
  refine (HPK.out _).mono ?_
  rintro x v ⟨rfl, rfl⟩
  go_wp2_with fail
  refine (crash_bad (hS.alloc _).d1 (hS.alloc _).hz (by show P.length ≤ _; omega) _ [-1 - (p : Int)] (by simp) (row_new _ _ hS.hz [-1 - (p : Int)] (by simp)) [] (by simp) (fun i hi => absurd hi (by simp)) (by simp) List.nodup_nil (.inl (by show -1 - (p : Int) < 0; omega))).mono ?_
  rintro x v ⟨rfl, hd⟩
  replace hS := (hS.alloc _).do1 hd
  clear hd
  have hcs : 0 < P.length ∨ ¬ 0 < P.length := by omega
  rcases hcs with hm | hm
  have dm : decide (0 < P.length) = true := decide_eq_true hm
  have hq := HQM.out hm
  go_wp2_with fail
  refine (HPM.out hm _).mono ?_
  rintro x v ⟨rfl, rfl⟩
  go_wp2_with fail
  refine (HPM.out hm _).mono ?_
  rintro x v ⟨rfl, rfl⟩
  go_wp2_with fail
  refine (crash_two (hS.alloc _).d1 (hS.alloc _).hz (by omega) _ q hq (row_new _ _ hS.hz [(q : Int), (q : Int)] (by simp))).mono ?_
  rintro x v ⟨rfl, hd⟩
  replace hS := (hS.alloc _).do1 hd
  clear hd
  go_wp2_with fail
  rotate_left
  have dm : decide (0 < P.length) = false := decide_eq_false hm
  go_wp2_with fail
  all_goals
    refine (rot_away hS.d1 _ _ _ (.inr (by rw [HKL.out]; omega))).mono ?_
    rintro x v ⟨rfl, rfl⟩
    go_wp2_with fail
    refine (HPK.out _).mono ?_
    rintro x v ⟨rfl, rfl⟩
    go_wp2_with fail
    refine (rot_bad hS.d1 0 (by rw [HKL.out]; omega) _ _ (.inr (.inl (by omega)))).mono ?_
    rintro x v ⟨rfl, rfl⟩
    go_wp2_with fail
    refine (HPK.out _).mono ?_
    rintro x v ⟨rfl, rfl⟩
    go_wp2_with fail
    refine (rot_bad hS.d1 0 (by rw [HKL.out]; omega) _ _ (.inr (.inr (.inr (by omega))))).mono ?_
    rintro x v ⟨rfl, rfl⟩
    go_wp2_with fail
    refine (nil_read _ _).mono ?_
    rintro x v ⟨rfl, hb⟩
    replace hS := hS.below hb
    clear hb
    go_wp2_with fail
    refine (all1 hS.d1 (by omega)).mono ?_
    rintro x w5 ⟨rfl, hb⟩
    replace hS := hS.below hb
    clear hb
    rw [show (⟨(layW K P).flatten.toArray⟩ : ByteArray) = T from HT.out.symm]
    go_wp2_with fail
    refine (pending_any hS.d1).mono ?_
    rintro x v ⟨rfl, rfl⟩
    go_wp2_with fail
    refine (full_any ⟨#[]⟩ (by decide) _).mono ?_
    rintro x v ⟨rfl, hb⟩
    replace hS := hS.below hb
    clear hb
    go_wp2_with fail
    refine (nil_write _ _ _).mono ?_
    rintro x v ⟨rfl, hb⟩
    replace hS := hS.below hb
    clear hb
    go_wp2_with fail
    refine (nil_sync _).mono ?_
    rintro x v ⟨rfl, hb⟩
    replace hS := hS.below hb
    clear hb
    go_wp2_with fail
    refine (nil_crash _ _).mono ?_
    rintro x v ⟨rfl, hb⟩
    replace hS := hS.below hb
    clear hb
    go_wp2_with fail
    refine (nil_rot _ _ _ _).mono ?_
    rintro x v ⟨rfl, hb⟩
    replace hS := hS.below hb
    clear hb
    go_wp2_with fail
    refine (nil_cut _ _).mono ?_
    rintro x v ⟨rfl, hb⟩
    replace hS := hS.below hb
    clear hb
    go_wp2_with fail
    refine (HPK.out _).mono ?_
    rintro x v ⟨rfl, rfl⟩
    go_wp2_with fail
    refine (cutd_bad _ (by omega)).mono ?_
    rintro x v ⟨rfl, rfl⟩
    go_wp2_with fail
    refine (nil_pending _).mono ?_
    rintro x v ⟨rfl, hb⟩
    replace hS := hS.below hb
    clear hb
    go_wp2_with fail
    refine (nil_size _).mono ?_
    rintro x v ⟨rfl, hb⟩
    replace hS := hS.below hb
    clear hb
    go_wp2_with fail
    go_ret
    exact ⟨rfl, hS.2⟩
end Go.Proofs.Ytepdncpgcpndoaa

/- big: a number laid into bytes, the greatest part first. -/
import Derived.WalkKit
import Derived.Below
import Derived.Lib.Hide
import Derived.IntWalk
import Derived.OwnWalk
import Derived.Maps.AppendAt
import Derived.Test.YtnoegbogalfdgaaProg
import Derived.Test.YtnoegbogalfdgaaFrameMath
import Derived.Test.YtnoegbogalfdgaaBytesAt
set_option linter.unusedSimpArgs false
set_option linter.unusedVariables false
namespace Go.Proofs.Ytnoegbogalfdgaa
open Go Go.RowKit Wire

theorem grownBy_set {w W : World} {B : Nat} (h : w.grownBy W (some B)) (i : Nat) (v : Value) : w.grownBy (W.setCell ⟨B, i, none⟩ v) (some B) :=
  h.trans (Lib.grownBy_setCell W B i v)

set_option maxHeartbeats 1000000 in
theorem big_any (B off len cap n : Nat) (t : TypeId) (l : List UInt8) (hl : off + len ≤ l.length) (hlen : len ≤ 100) (hn : n < 4294967296) (w : World) (hb : BytesAt w B t l) :
    Calls Try.prog 22 #[.slice (some ⟨B, off, none⟩) len cap, .int .i64 (n : Int)] w fun x w' => (∃ v, x = .returned v) ∧ BytesAt w' B t (Frame.bigAfter l off len n len) ∧ w.grownBy w' (some B) := by
  have HL := Lib.hid hl; clear hl
  go_enter Try.func22, Try.ntmps22
  go_wp2
  go_loopw [1, 4] (fun q i wr => ∃ m : Nat, m ≤ len ∧ q = .int .i64 ((n / 256 ^ m : Nat) : Int) ∧ i = .int .i64 ((len : Int) - 1 - m) ∧ BytesAt wr B t (Frame.bigAfter l off len n m) ∧ w.grownBy wr (some B)) (fun _ i _ => (intOf i + 1).toNat)
  case atStart => exact ⟨0, by omega, by simp, by simp, hb, World.grownBy.refl _ _⟩
  case round =>
    obtain ⟨m, hm, rfl, rfl, hbm, hg⟩ := hrel
    have hq : n / 256 ^ m < 4294967296 := Nat.lt_of_le_of_lt (Nat.div_le_self _ _) hn
    by_cases hlt : m < len
    · generalize hqe : n / 256 ^ m = q at hq ⊢
      have HQ := Lib.hid hqe; clear hqe
      obtain ⟨j, hj⟩ : ∃ j : Nat, (len : Int) - 1 - m = (j : Int) := ⟨len - 1 - m, by omega⟩
      rw [hj]
      have hj2 : j < len := by omega
      have hj3 : j = len - 1 - m := by omega
      have HJ := Lib.hid hj3; clear hj3
      have HJ2 := Lib.hid hj; clear hj
      have hjl : off + j < (Frame.bigAfter l off len n m).length := by rw [Frame.bigAfter_length]; have := HL.out; omega
      obtain ⟨x0, hcell⟩ : ∃ x : UInt8, wr.cell? ⟨B, off + j, none⟩ = some (.int .u8 (x.toNat : Int)) := ⟨_, hbm.cell hjl⟩
      have hfro := hbm.frozen (off + j)
      have he : u8c (UInt8.ofNat (q % 256)) = .int .u8 ((q : Int) % 256) := by
        unfold u8c
        rw [Frame.ofNat_toNat (by omega)]; rfl
      have hbm' := hbm.set (off + j) (UInt8.ofNat (q % 256))
      have hg' := grownBy_set hg (off + j) (u8c (UInt8.ofNat (q % 256)))
      rw [he] at hbm' hg'
      have HB := Lib.hid hbm'; clear hbm'
      clear hjl he
      go_wp2
      refine ⟨⟨m + 1, by omega, ?_, ?_, ?_, hg'⟩, ?_⟩
      · rw [Nat.pow_succ, ← Nat.div_div_eq_div_mul, HQ.out]; rfl
      · have := HJ2.out
        congr 1; omega
      · show BytesAt _ B t ((Frame.bigAfter l off len n m).set (off + (len - 1 - m)) (UInt8.ofNat (n / 256 ^ m % 256)))
        rw [HQ.out, ← HJ.out]
        exact HB.out
      · simp [intOf]
    · obtain rfl : m = len := by omega
      have d1 : decide ((0 : Int) ≤ (m : Int) - 1 - m) = false := decide_eq_false (by omega)
      go_wp2
      go_end0
      exact ⟨⟨_, rfl⟩, hbm, hg⟩
end Go.Proofs.Ytnoegbogalfdgaa

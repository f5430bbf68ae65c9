/- Rot of a disk. -/
import Derived.Test.YtnoegbogalfdgaaDiskSync
import Derived.Laws.BitsAllLaws
set_option linter.unusedSimpArgs false
set_option linter.unusedVariables false
namespace Go.Proofs.Ytnoegbogalfdgaa
open Go Go.RowKit Wire

theorem kcells_setByte : ∀ (l : List (List UInt8)) (i : Nat) (h : i < l.length) (j : Nat) (b : UInt8), (∀ x ∈ l, x.length = 64) → j < 64 → (kcells l).set (i * 64 + j) (u8c b) = kcells (l.set i (l[i].set j b))
  | x :: r, 0, _, j, b, h, hj => by
    have hx : (x.map u8c).length = 64 := by rw [List.length_map]; exact h x List.mem_cons_self
    simp only [kcells, List.flatMap_cons, List.set_cons_zero, Nat.zero_mul, Nat.zero_add, List.getElem_cons_zero]
    rw [List.set_append, if_pos (by rw [hx]; exact hj), ← List.map_set]
  | x :: r, i + 1, hi, j, b, h, hj => by
    have hx : (x.map u8c).length = 64 := by rw [List.length_map]; exact h x List.mem_cons_self
    have ih := kcells_setByte r i (by simpa using hi) j b (fun y hy => h y (List.mem_cons_of_mem _ hy)) hj
    simp only [kcells, List.flatMap_cons, List.set_cons_succ, List.getElem_cons_succ] at ih ⊢
    rw [List.set_append, if_neg (by rw [hx]; omega), hx, show (i + 1) * 64 + j - 64 = i * 64 + j from by omega, ih]

section
variable {B r kb : Nat} {W : World} {pv : Value} {d : DS}
theorem DAt.setByte (h : DAt B W r kb pv d) (i : Nat) (hi : i < d.kept.length) (j : Nat) (hj : j < 64) (b : UInt8) :
    DAt B (W.setCell ⟨kb, i * 64 + j, none⟩ (u8c b)) r kb pv ⟨d.kept.set i (d.kept[i].set j b), d.pend, d.cut, d.left⟩ := by
  have hk := heap_setCell_same W kb (i * 64 + j) _ _ (u8c b) h.kept
  have e : (kcells d.kept).toArray.setIfInBounds (i * 64 + j) (u8c b) = (kcells (d.kept.set i (d.kept[i].set j b))).toArray := by
    rw [← kcells_setByte d.kept i hi j b h.good.k64 hj]; simp
  rw [e] at hk
  refine ⟨?_, hk, ⟨h.pend.1, ?_⟩, h.lor, h.lok, ⟨fun x hx => ?_, fun p hp => ?_, ?_, h.good.left⟩⟩
  · rw [Below.heap_setCell W ⟨kb, _, none⟩ _ r h.rk]; simpa using h.box
  · rcases h.pend.2 with h0 | ⟨g, cap, cur, hv, hb', hg', hr⟩
    · exact .inl h0
    · refine .inr ⟨g, cap, cur, hv, hb', ?_, hr⟩
      rw [Below.heap_setCell W ⟨kb, _, none⟩ _ g (fun e => h.pk (by rw [hv, e]; rfl))]; exact hg'
  · rcases List.mem_or_eq_of_mem_set hx with h1 | h1
    · exact h.good.k64 x h1
    · rw [h1, List.length_set]; exact h.good.k64 _ (List.getElem_mem _)
  · have := h.good.p64 p hp
    exact ⟨this.1, by simpa using this.2⟩
  · simpa using h.good.few

set_option maxHeartbeats 1000000 in
theorem rot_away (h : DAt B W r kb pv d) (at' p m : Int) (hb : at' < 0 ∨ (d.kept.length : Int) ≤ at') :
    Calls Try.prog 11 #[.pointer (some ⟨r, 0, none⟩), .int .i64 at', .int .i64 p, .int .i64 m] W fun x W' => x = .returned (.int .i64 20) ∧ W = W' := by
  have hno := has_no h at' hb
  clear hb
  go_enter Try.func11, Try.ntmps11
  go_wp2_with fail
  refine hno.mono ?_
  rintro x W1 ⟨rfl, rfl⟩
  go_wp2_with fail
  go_ret
  exact ⟨rfl, rfl⟩
set_option maxHeartbeats 1000000 in
theorem rot_bad (h : DAt B W r kb pv d) (at' : Nat) (ha : at' < d.kept.length) (p m : Int) (hb : p < 0 ∨ 64 ≤ p ∨ m < 0 ∨ 255 < m) :
    Calls Try.prog 11 #[.pointer (some ⟨r, 0, none⟩), .int .i64 (at' : Int), .int .i64 p, .int .i64 m] W fun x W' => x = .returned (.int .i64 2) ∧ W = W' := by
  have hyes := has_yes h at' ha
  clear h ha
  by_cases h1 : p < 0
  · go_enter Try.func11, Try.ntmps11
    go_wp2_with fail
    refine hyes.mono ?_
    rintro x W1 ⟨rfl, rfl⟩
    go_wp2_with fail
    go_ret
    exact ⟨rfl, rfl⟩
  by_cases h2 : 64 ≤ p
  · go_enter Try.func11, Try.ntmps11
    go_wp2_with fail
    refine hyes.mono ?_
    rintro x W1 ⟨rfl, rfl⟩
    go_wp2_with fail
    go_ret
    exact ⟨rfl, rfl⟩
  by_cases h3 : m < 0
  · go_enter Try.func11, Try.ntmps11
    go_wp2_with fail
    refine hyes.mono ?_
    rintro x W1 ⟨rfl, rfl⟩
    go_wp2_with fail
    go_ret
    exact ⟨rfl, rfl⟩
  have h4 : 255 < m := by omega
  go_enter Try.func11, Try.ntmps11
  go_wp2_with fail
  refine hyes.mono ?_
  rintro x W1 ⟨rfl, rfl⟩
  go_wp2_with fail
  go_ret
  exact ⟨rfl, rfl⟩

set_option maxHeartbeats 2000000 in
theorem rot_ok (h : DAt B W r kb pv d) (at' : Nat) (ha : at' < d.kept.length) (p m : Nat) (hp : p < 64) (hm : m < 256) (b : UInt8) (hb : d.kept[at'][p]? = some b) :
    Calls Try.prog 11 #[.pointer (some ⟨r, 0, none⟩), .int .i64 (at' : Int), .int .i64 (p : Int), .int .i64 (m : Int)] W fun x W' => x = .returned (.int .i64 0) ∧
      Did B W W' r kb pv pv ⟨d.kept.set at' (d.kept[at'].set p (b ^^^ UInt8.ofNat m)), d.pend, d.cut, d.left⟩ := by
  have hyes := has_yes h at' ha
  have hD := h.setByte at' ha p hp (b ^^^ UInt8.ofNat m)
  have hDid : Did B W (W.setCell ⟨kb, at' * 64 + p, none⟩ (u8c (b ^^^ UInt8.ofNat m))) r kb pv pv ⟨d.kept.set at' (d.kept[at'].set p (b ^^^ UInt8.ofNat m)), d.pend, d.cut, d.left⟩ :=
    ⟨hD, (Below.refl _ _).setCell (p := ⟨kb, at' * 64 + p, none⟩) h.lok _, ⟨by simp [World.setCell], fun k _ _ q2 _ => Below.heap_setCell W ⟨kb, _, none⟩ _ k q2⟩, fun _ hq => .inl hq⟩
  have hcell : W.cell? ⟨kb, at' * 64 + p, none⟩ = some (u8c b) := by
    rw [cell_of_row _ _ _ _ _ (0, 0) h.kept]
    have := kcells_at d.kept at' ha h.good.k64 p (u8c b) (by rw [List.getElem?_map, hb]; rfl)
    simpa using this
  have hfz : W.frozen? ⟨kb, at' * 64 + p, none⟩ = false := frozen_of_row _ _ _ _ _ h.kept
  have c0 := h.c0
  have hx : bits .xor .u8 (b.toNat : Int) (m : Int) = ((b ^^^ UInt8.ofNat m).toNat : Int) := by
    rw [u8_xor_nat b.toNat m b.toNat_lt hm, UInt8.toNat_xor, UInt8.toNat_ofNat', Nat.mod_eq_of_lt (by simpa using hm)]
  have hu : ∀ c : UInt8, u8c c = .int .u8 (c.toNat : Int) := fun _ => rfl
  rw [hu] at hcell hDid
  generalize b ^^^ UInt8.ofNat m = nb at hDid hx
  have a1 : (at' : Int) < (d.kept.length : Int) := by omega
  have a2 : (p : Int) < 64 := by omega
  have a3 : (m : Int) ≤ 255 := by omega
  have HD := Lib.hid hDid
  have HX := Lib.hid hx
  clear h hD hDid hb hu hx
  go_enter Try.func11, Try.ntmps11
  go_wp2_with fail
  refine hyes.mono ?_
  rintro x W1 ⟨rfl, rfl⟩
  clear hyes
  go_wp2_with fail
  go_region
  rw [HX.out]
  have hF : Did B W (W.setCell ⟨kb, at' * 64 + p, none⟩ (.int .u8 (nb.toNat : Int))).drew r kb pv pv _ := ⟨HD.out.disk.drew, HD.out.below.drew, ⟨HD.out.only.size, HD.out.only.block⟩, HD.out.fresh⟩
  generalize (W.setCell ⟨kb, at' * 64 + p, none⟩ (.int .u8 (nb.toNat : Int))).drew = X at hF ⊢
  clear hcell hfz c0 HD HX
  go_wp2_with fail
  go_ret
  exact ⟨rfl, hF⟩
end
end Go.Proofs.Ytnoegbogalfdgaa

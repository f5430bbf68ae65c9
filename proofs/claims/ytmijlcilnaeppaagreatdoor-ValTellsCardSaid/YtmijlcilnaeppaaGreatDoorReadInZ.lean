/- val.read: a value that is no list. -/
import Derived.Test.YtmijlcilnaeppaaGreatDoorBun7
import Derived.Test.YtmijlcilnaeppaaGreatDoorBun6
import Derived.Test.YtmijlcilnaeppaaGreatDoorBun8
set_option linter.unusedSimpArgs false
set_option linter.unusedVariables false
namespace Go.Proofs.YtmijlcilnaeppaaGreatDoor
open Go Go.RowKit Go.Shelf

/-- what read answers -/
def readPost (r : Option (V × Nat)) (p : Nat) (W : World) (e : Ending) (W' : World) : Prop :=
  Below W.heap.size W W' ∧ match r with
    | none => e = .returned (.tuple #[valV 0 0 ⟨#[]⟩ (.slice none 0 0), .int .i64 0, .bool false])
    | some (u, k) => e = .returned (.tuple #[valV u.k u.n u.s (.slice none 0 0), .int .i64 ((p : Int) + (k : Nat)), .bool true])

set_option maxHeartbeats 4000000 in
set_option maxRecDepth 100000 in
theorem read_end (s : ByteArray) (p : Nat) (hp : s.size ≤ p) (W : World) :
    Calls Tryz.prog 50 #[.string s, .int .i64 (p : Int)] W (readPost none p W) := by
  go_enter Tryz.func50, Tryz.ntmps50
  go_wp2_with fail
  exact bodyPost_ret (v := .tuple #[valV 0 0 ⟨#[]⟩ (.slice none 0 0), .int .i64 0, .bool false]) (by simp [results, Tryz.results50, go_sem]) rfl ⟨(Below.refl _ _).alloc (Nat.le_refl _) _, rfl⟩

set_option maxHeartbeats 4000000 in
set_option maxRecDepth 100000 in
theorem read_text_none (s : ByteArray) (hs : s.size ≤ 140737488355327) (p : Nat) (hp : p < s.size) (hc : (s[p].toNat : Int) = 34) (hu : unqAt s (p + 1) [] = none) (W : World) :
    Calls Tryz.prog 50 #[.string s, .int .i64 (p : Int)] W (readPost none p W) := by
  have hq := fun w => unquote_at s hs p hp hc w
  rw [hu] at hq
  have HQ := Lib.hid hq
  have d01 : decide (s.size ≤ p) = false := decide_eq_false (by omega)
  have d02 : decide ((s.size : Int) ≤ (p : Int)) = false := decide_eq_false (by omega)
  have d1 : ((s[p].toNat : Int) == 34) = true := by rw [beq_iff_eq]; exact hc
  clear hc hu hq
  go_enter Tryz.func50, Tryz.ntmps50
  go_wp2_with fail
  refine (HQ.out _).mono ?_
  rintro e W1 ⟨hB1, rfl⟩
  have hV0 : VBox ((W.alloc (.cells #[.int .i64 0, .int .i64 0, .string ⟨#[]⟩, .slice none 0 0] 30)).alloc (.cells #[.int .i64 2, .int .i64 0, .string ⟨#[]⟩, .slice none 0 0] 30)) W.heap.size 0 0 ⟨#[]⟩ (.slice none 0 0) := (VBox.new W 0 0 ⟨#[]⟩ (.slice none 0 0)).alloc _
  have hV1 : VBox ((W.alloc (.cells #[.int .i64 0, .int .i64 0, .string ⟨#[]⟩, .slice none 0 0] 30)).alloc (.cells #[.int .i64 2, .int .i64 0, .string ⟨#[]⟩, .slice none 0 0] 30)) (W.heap.size + 1) 2 0 ⟨#[]⟩ (.slice none 0 0) := by
    have := VBox.new (W.alloc (.cells #[.int .i64 0, .int .i64 0, .string ⟨#[]⟩, .slice none 0 0] 30)) 2 0 ⟨#[]⟩ (.slice none 0 0)
    rwa [show (W.alloc (.cells #[.int .i64 0, .int .i64 0, .string ⟨#[]⟩, .slice none 0 0] 30)).heap.size = W.heap.size + 1 from by simp] at this
  have hV2 := hV0.below hB1
  have hU2 := hV1.below hB1
  have hBW := below_two' _ _ hB1
  obtain ⟨⟨v0, v1, v2, v3⟩, g0, g1, g2, g3⟩ := hU2.facts
  have hV3 := hV2.past ⟨W.heap.size + 1, 2, none⟩ (by show W.heap.size ≠ W.heap.size + 1; omega) (.string ⟨#[]⟩)
  have hBW3 := hBW.setCell (p := ⟨W.heap.size + 1, 2, none⟩) (by show W.heap.size ≤ W.heap.size + 1; omega) (.string ⟨#[]⟩)
  obtain ⟨⟨c0, c1, c2, c3⟩, f0, f1, f2, f3⟩ := hV2.facts
  have HV2 := Lib.hid hV3
  have HBW := Lib.hid hBW3
  clear hV0 hV1 hV2 hU2 hBW hV3 hBW3 hB1
  go_wp2_with fail
  have hV := HV2.out.put 0 0 ⟨#[]⟩ (.slice none 0 0)
  have hB := below_put HBW.out (b := W.heap.size) (Nat.le_refl _) 0 0 ⟨#[]⟩ (.slice none 0 0)
  unfold putBox at hV hB
  generalize ((((W1.setCell ⟨W.heap.size + 1, 2, none⟩ (.string ⟨#[]⟩)).setCell ⟨W.heap.size, 0, none⟩ (.int .i64 0)).setCell ⟨W.heap.size, 1, none⟩ (.int .i64 0)).setCell ⟨W.heap.size, 2, none⟩ (.string ⟨#[]⟩)).setCell ⟨W.heap.size, 3, none⟩ (.slice none 0 0) = W9 at hV hB ⊢
  obtain ⟨⟨e0, e1, e2, e3⟩, _⟩ := hV.facts
  exact bodyPost_ret (v := .tuple #[valV 0 0 ⟨#[]⟩ (.slice none 0 0), .int .i64 0, .bool false]) (by simp [results, Tryz.results50, go_sem, e0, e1, e2, e3]) rfl ⟨hB, rfl⟩

set_option maxHeartbeats 4000000 in
set_option maxRecDepth 100000 in
theorem read_text_true (s : ByteArray) (hs : s.size ≤ 140737488355327) (p : Nat) (hp : p < s.size) (hc : (s[p].toNat : Int) = 34) (t : List UInt8) (k : Nat) (hkp : p ≤ k) (hu : unqAt s (p + 1) [] = some (t, k)) (htl : t.length ≤ 9223372036854775807) (hf : flatOk 2 0 ⟨t.toArray⟩ 0 = true) (W : World) (hT : Tabs W) :
    Calls Tryz.prog 50 #[.string s, .int .i64 (p : Int)] W (readPost (some (.mk 2 0 ⟨t.toArray⟩ [], k - p)) p W) := by
  have hq := fun w => unquote_at s hs p hp hc w
  rw [hu] at hq
  have HQ := Lib.hid hq
  have HF := Lib.hid hf
  have hts : (⟨t.toArray⟩ : ByteArray).size ≤ 9223372036854775807 := by rw [ba_size]; exact htl
  have d01 : decide (s.size ≤ p) = false := decide_eq_false (by omega)
  have d02 : decide ((s.size : Int) ≤ (p : Int)) = false := decide_eq_false (by omega)
  have d1 : ((s[p].toNat : Int) == 34) = true := by rw [beq_iff_eq]; exact hc
  clear hc hu hq hf htl
  go_enter Tryz.func50, Tryz.ntmps50
  go_wp2_with fail
  refine (HQ.out _).mono ?_
  rintro e W1 ⟨hB1, rfl⟩
  have hV0 : VBox ((W.alloc (.cells #[.int .i64 0, .int .i64 0, .string ⟨#[]⟩, .slice none 0 0] 30)).alloc (.cells #[.int .i64 2, .int .i64 0, .string ⟨#[]⟩, .slice none 0 0] 30)) W.heap.size 0 0 ⟨#[]⟩ (.slice none 0 0) := (VBox.new W 0 0 ⟨#[]⟩ (.slice none 0 0)).alloc _
  have hV1 : VBox ((W.alloc (.cells #[.int .i64 0, .int .i64 0, .string ⟨#[]⟩, .slice none 0 0] 30)).alloc (.cells #[.int .i64 2, .int .i64 0, .string ⟨#[]⟩, .slice none 0 0] 30)) (W.heap.size + 1) 2 0 ⟨#[]⟩ (.slice none 0 0) := by
    have := VBox.new (W.alloc (.cells #[.int .i64 0, .int .i64 0, .string ⟨#[]⟩, .slice none 0 0] 30)) 2 0 ⟨#[]⟩ (.slice none 0 0)
    rwa [show (W.alloc (.cells #[.int .i64 0, .int .i64 0, .string ⟨#[]⟩, .slice none 0 0] 30)).heap.size = W.heap.size + 1 from by simp] at this
  have hV2 := hV0.below hB1
  have hU2 := hV1.below hB1
  have hBW := below_two' _ _ hB1
  obtain ⟨⟨v0, v1, v2, v3⟩, g0, g1, g2, g3⟩ := hU2.facts
  have hV3 := hV2.past ⟨W.heap.size + 1, 2, none⟩ (by show W.heap.size ≠ W.heap.size + 1; omega) (.string ⟨t.toArray⟩)
  have hU3 := hU2.set2 ⟨t.toArray⟩
  have hBW3 := hBW.setCell (p := ⟨W.heap.size + 1, 2, none⟩) (by show W.heap.size ≤ W.heap.size + 1; omega) (.string ⟨t.toArray⟩)
  have hr := right_flat 2 0 (by decide) ⟨t.toArray⟩ hts none 0 0 _ (hT.below hBW3)
  rw [HF.out] at hr
  have HV0 := Lib.hid hV3
  have HV1 := Lib.hid hU3
  have HB0 := Lib.hid hBW3
  clear hV0 hV1 hV2 hU2 hBW hV3 hBW3 hB1 hU3
  go_wp2_with fail
  refine hr.mono ?_
  rintro e W2 ⟨rfl, hB2⟩
  have hV2 := HV0.out.below hB2
  have hU2 := HV1.out.below hB2
  have hBW := HB0.out.trans (hB2.mono HB0.out.size)
  clear v0 v1 v2 v3 g0 g1 g2 g3
  obtain ⟨⟨c0, c1, c2, c3⟩, f0, f1, f2, f3⟩ := hV2.facts
  obtain ⟨⟨v0, v1, v2, v3⟩, g0, g1, g2, g3⟩ := hU2.facts
  have HV2 := Lib.hid hV2
  have HBW := Lib.hid hBW
  clear hr hB2 hV2 hU2 hBW HV0 HV1 HB0
  go_wp2_with fail
  have hV := HV2.out.put 2 0 ⟨t.toArray⟩ (.slice none 0 0)
  have hB := below_put HBW.out (b := W.heap.size) (Nat.le_refl _) 2 0 ⟨t.toArray⟩ (.slice none 0 0)
  unfold putBox at hV hB
  generalize (((W2.setCell ⟨W.heap.size, 0, none⟩ (.int .i64 2)).setCell ⟨W.heap.size, 1, none⟩ (.int .i64 0)).setCell ⟨W.heap.size, 2, none⟩ (.string ⟨t.toArray⟩)).setCell ⟨W.heap.size, 3, none⟩ (.slice none 0 0) = W9 at hV hB ⊢
  obtain ⟨⟨e0, e1, e2, e3⟩, _⟩ := hV.facts
  exact bodyPost_ret (v := .tuple #[valV 2 0 ⟨t.toArray⟩ (.slice none 0 0), .int .i64 (k : Int), .bool true]) (by simp [results, Tryz.results50, go_sem, e0, e1, e2, e3]) rfl ⟨hB, by show _ = Ending.returned (.tuple #[valV 2 0 ⟨t.toArray⟩ (.slice none 0 0), .int .i64 ((p : Int) + ((k - p : Nat) : Int)), .bool true]); rw [show (p : Int) + ((k - p : Nat) : Int) = k from by omega]⟩

set_option maxHeartbeats 4000000 in
set_option maxRecDepth 100000 in
theorem read_text_false (s : ByteArray) (hs : s.size ≤ 140737488355327) (p : Nat) (hp : p < s.size) (hc : (s[p].toNat : Int) = 34) (t : List UInt8) (k : Nat) (hkp : p ≤ k) (hu : unqAt s (p + 1) [] = some (t, k)) (htl : t.length ≤ 9223372036854775807) (hf : flatOk 2 0 ⟨t.toArray⟩ 0 = false) (W : World) (hT : Tabs W) :
    Calls Tryz.prog 50 #[.string s, .int .i64 (p : Int)] W (readPost none p W) := by
  have hq := fun w => unquote_at s hs p hp hc w
  rw [hu] at hq
  have HQ := Lib.hid hq
  have HF := Lib.hid hf
  have hts : (⟨t.toArray⟩ : ByteArray).size ≤ 9223372036854775807 := by rw [ba_size]; exact htl
  have d01 : decide (s.size ≤ p) = false := decide_eq_false (by omega)
  have d02 : decide ((s.size : Int) ≤ (p : Int)) = false := decide_eq_false (by omega)
  have d1 : ((s[p].toNat : Int) == 34) = true := by rw [beq_iff_eq]; exact hc
  clear hc hu hq hf htl
  go_enter Tryz.func50, Tryz.ntmps50
  go_wp2_with fail
  refine (HQ.out _).mono ?_
  rintro e W1 ⟨hB1, rfl⟩
  have hV0 : VBox ((W.alloc (.cells #[.int .i64 0, .int .i64 0, .string ⟨#[]⟩, .slice none 0 0] 30)).alloc (.cells #[.int .i64 2, .int .i64 0, .string ⟨#[]⟩, .slice none 0 0] 30)) W.heap.size 0 0 ⟨#[]⟩ (.slice none 0 0) := (VBox.new W 0 0 ⟨#[]⟩ (.slice none 0 0)).alloc _
  have hV1 : VBox ((W.alloc (.cells #[.int .i64 0, .int .i64 0, .string ⟨#[]⟩, .slice none 0 0] 30)).alloc (.cells #[.int .i64 2, .int .i64 0, .string ⟨#[]⟩, .slice none 0 0] 30)) (W.heap.size + 1) 2 0 ⟨#[]⟩ (.slice none 0 0) := by
    have := VBox.new (W.alloc (.cells #[.int .i64 0, .int .i64 0, .string ⟨#[]⟩, .slice none 0 0] 30)) 2 0 ⟨#[]⟩ (.slice none 0 0)
    rwa [show (W.alloc (.cells #[.int .i64 0, .int .i64 0, .string ⟨#[]⟩, .slice none 0 0] 30)).heap.size = W.heap.size + 1 from by simp] at this
  have hV2 := hV0.below hB1
  have hU2 := hV1.below hB1
  have hBW := below_two' _ _ hB1
  obtain ⟨⟨v0, v1, v2, v3⟩, g0, g1, g2, g3⟩ := hU2.facts
  have hV3 := hV2.past ⟨W.heap.size + 1, 2, none⟩ (by show W.heap.size ≠ W.heap.size + 1; omega) (.string ⟨t.toArray⟩)
  have hU3 := hU2.set2 ⟨t.toArray⟩
  have hBW3 := hBW.setCell (p := ⟨W.heap.size + 1, 2, none⟩) (by show W.heap.size ≤ W.heap.size + 1; omega) (.string ⟨t.toArray⟩)
  have hr := right_flat 2 0 (by decide) ⟨t.toArray⟩ hts none 0 0 _ (hT.below hBW3)
  rw [HF.out] at hr
  have HV0 := Lib.hid hV3
  have HV1 := Lib.hid hU3
  have HB0 := Lib.hid hBW3
  clear hV0 hV1 hV2 hU2 hBW hV3 hBW3 hB1 hU3
  go_wp2_with fail
  refine hr.mono ?_
  rintro e W2 ⟨rfl, hB2⟩
  have hV2 := HV0.out.below hB2
  have hU2 := HV1.out.below hB2
  have hBW := HB0.out.trans (hB2.mono HB0.out.size)
  clear v0 v1 v2 v3 g0 g1 g2 g3
  obtain ⟨⟨c0, c1, c2, c3⟩, f0, f1, f2, f3⟩ := hV2.facts
  obtain ⟨⟨v0, v1, v2, v3⟩, g0, g1, g2, g3⟩ := hU2.facts
  have HV2 := Lib.hid hV2
  have HBW := Lib.hid hBW
  clear hr hB2 hV2 hU2 hBW HV0 HV1 HB0
  go_wp2_with fail
  have hV := HV2.out.put 0 0 ⟨#[]⟩ (.slice none 0 0)
  have hB := below_put HBW.out (b := W.heap.size) (Nat.le_refl _) 0 0 ⟨#[]⟩ (.slice none 0 0)
  unfold putBox at hV hB
  generalize (((W2.setCell ⟨W.heap.size, 0, none⟩ (.int .i64 0)).setCell ⟨W.heap.size, 1, none⟩ (.int .i64 0)).setCell ⟨W.heap.size, 2, none⟩ (.string ⟨#[]⟩)).setCell ⟨W.heap.size, 3, none⟩ (.slice none 0 0) = W9 at hV hB ⊢
  obtain ⟨⟨e0, e1, e2, e3⟩, _⟩ := hV.facts
  exact bodyPost_ret (v := .tuple #[valV 0 0 ⟨#[]⟩ (.slice none 0 0), .int .i64 0, .bool false]) (by simp [results, Tryz.results50, go_sem, e0, e1, e2, e3]) rfl ⟨hB, rfl⟩

set_option maxHeartbeats 4000000 in
set_option maxRecDepth 100000 in
theorem read_ref_none (s : ByteArray) (hs : s.size ≤ 140737488355327) (p : Nat) (hp : p < s.size) (hc : (s[p].toNat : Int) = 64) (n : Int) (k : Nat) (hx : numTxt (-20) 100000 (s.data.toList.drop (p + 1)) = (n, k, false)) (W : World) :
    Calls Tryz.prog 50 #[.string s, .int .i64 (p : Int)] W (readPost none p W) := by
  have hq := fun w => readNum_txt s hs (p + 1) (by omega) (-20) 100000 (by decide) (by decide) (by decide) (by decide) w
  rw [hx] at hq
  unfold readNumE at hq
  rw [show ((p + 1 : Nat) : Int) = (p : Int) + 1 from by omega] at hq
  simp only at hq
  have HQ := Lib.hid hq
  have d01 : decide (s.size ≤ p) = false := decide_eq_false (by omega)
  have d02 : decide ((s.size : Int) ≤ (p : Int)) = false := decide_eq_false (by omega)
  have d0 : ((s[p].toNat : Int) == 34) = false := by rw [beq_eq_false_iff_ne]; omega
  have d1 : ((s[p].toNat : Int) == 64) = true := by rw [beq_iff_eq]; exact hc
  clear hc hx hq
  go_enter Tryz.func50, Tryz.ntmps50
  go_wp2_with fail
  refine (HQ.out _).mono ?_
  rintro e W1 ⟨rfl, rfl⟩
  go_wp2_with fail
  exact bodyPost_ret (v := .tuple #[valV 0 0 ⟨#[]⟩ (.slice none 0 0), .int .i64 0, .bool false]) (by simp [results, Tryz.results50, go_sem]) rfl ⟨below_two _ _, rfl⟩

set_option maxHeartbeats 4000000 in
set_option maxRecDepth 100000 in
theorem read_ref_true (s : ByteArray) (hs : s.size ≤ 140737488355327) (p : Nat) (hp : p < s.size) (hc : (s[p].toNat : Int) = 64) (n : Int) (k : Nat) (hx : numTxt (-20) 100000 (s.data.toList.drop (p + 1)) = (n, k, true)) (hf : flatOk 3 n ⟨#[]⟩ 0 = true) (W : World) (hT : Tabs W) :
    Calls Tryz.prog 50 #[.string s, .int .i64 (p : Int)] W (readPost (some (.mk 3 n ⟨#[]⟩ [], k + 1)) p W) := by
  have HF := Lib.hid hf
  clear hf
  have hq := fun w => readNum_txt s hs (p + 1) (by omega) (-20) 100000 (by decide) (by decide) (by decide) (by decide) w
  rw [hx] at hq
  unfold readNumE at hq
  rw [show ((p + 1 : Nat) : Int) = (p : Int) + 1 from by omega] at hq
  simp only at hq
  have HQ := Lib.hid hq
  have d01 : decide (s.size ≤ p) = false := decide_eq_false (by omega)
  have d02 : decide ((s.size : Int) ≤ (p : Int)) = false := decide_eq_false (by omega)
  have d0 : ((s[p].toNat : Int) == 34) = false := by rw [beq_eq_false_iff_ne]; omega
  have d1 : ((s[p].toNat : Int) == 64) = true := by rw [beq_iff_eq]; exact hc
  clear hc hx hq
  have hr := right_flat 3 n (by decide) ⟨#[]⟩ (by decide) none 0 0 _ (hT.below (below_two (.cells #[.int .i64 0, .int .i64 0, .string ⟨#[]⟩, .slice none 0 0] 30) (.cells #[.int .i64 3, .int .i64 n, .string ⟨#[]⟩, .slice none 0 0] 30)))
  rw [HF.out] at hr
  have hV0 : VBox ((W.alloc (.cells #[.int .i64 0, .int .i64 0, .string ⟨#[]⟩, .slice none 0 0] 30)).alloc (.cells #[.int .i64 3, .int .i64 n, .string ⟨#[]⟩, .slice none 0 0] 30)) W.heap.size 0 0 ⟨#[]⟩ (.slice none 0 0) := (VBox.new W 0 0 ⟨#[]⟩ (.slice none 0 0)).alloc _
  have hV1 : VBox ((W.alloc (.cells #[.int .i64 0, .int .i64 0, .string ⟨#[]⟩, .slice none 0 0] 30)).alloc (.cells #[.int .i64 3, .int .i64 n, .string ⟨#[]⟩, .slice none 0 0] 30)) (W.heap.size + 1) 3 n ⟨#[]⟩ (.slice none 0 0) := by
    have := VBox.new (W.alloc (.cells #[.int .i64 0, .int .i64 0, .string ⟨#[]⟩, .slice none 0 0] 30)) 3 n ⟨#[]⟩ (.slice none 0 0)
    rwa [show (W.alloc (.cells #[.int .i64 0, .int .i64 0, .string ⟨#[]⟩, .slice none 0 0] 30)).heap.size = W.heap.size + 1 from by simp] at this
  have HV0 := Lib.hid hV0
  have HV1 := Lib.hid hV1
  clear hV0 hV1
  go_enter Tryz.func50, Tryz.ntmps50
  go_wp2_with fail
  refine (HQ.out _).mono ?_
  rintro e W1 ⟨rfl, rfl⟩
  go_wp2_with fail
  refine hr.mono ?_
  rintro e W2 ⟨rfl, hB2⟩
  have hV2 := HV0.out.below hB2
  have hU2 := HV1.out.below hB2
  have hBW := below_two' _ _ hB2
  obtain ⟨⟨c0, c1, c2, c3⟩, f0, f1, f2, f3⟩ := hV2.facts
  obtain ⟨⟨v0, v1, v2, v3⟩, g0, g1, g2, g3⟩ := hU2.facts
  have HV2 := Lib.hid hV2
  have HBW := Lib.hid hBW
  clear hr hB2 hV2 hU2 hBW
  go_wp2_with fail
  have hV := HV2.out.put 3 n ⟨#[]⟩ (.slice none 0 0)
  have hB := below_put HBW.out (b := W.heap.size) (Nat.le_refl _) 3 n ⟨#[]⟩ (.slice none 0 0)
  unfold putBox at hV hB
  generalize (((W2.setCell ⟨W.heap.size, 0, none⟩ (.int .i64 3)).setCell ⟨W.heap.size, 1, none⟩ (.int .i64 n)).setCell ⟨W.heap.size, 2, none⟩ (.string ⟨#[]⟩)).setCell ⟨W.heap.size, 3, none⟩ (.slice none 0 0) = W9 at hV hB ⊢
  obtain ⟨⟨e0, e1, e2, e3⟩, _⟩ := hV.facts
  exact bodyPost_ret (v := .tuple #[valV 3 n ⟨#[]⟩ (.slice none 0 0), .int .i64 (((p : Int) + 1) + (k : Nat)), .bool true]) (by simp [results, Tryz.results50, go_sem, e0, e1, e2, e3]) rfl ⟨hB, by show _ = Ending.returned (.tuple #[valV 3 n ⟨#[]⟩ (.slice none 0 0), .int .i64 ((p : Int) + ((k + 1 : Nat) : Int)), .bool true]); rw [show (p : Int) + ((k + 1 : Nat) : Int) = (p : Int) + 1 + (k : Nat) from by omega]⟩

set_option maxHeartbeats 4000000 in
set_option maxRecDepth 100000 in
theorem read_ref_false (s : ByteArray) (hs : s.size ≤ 140737488355327) (p : Nat) (hp : p < s.size) (hc : (s[p].toNat : Int) = 64) (n : Int) (k : Nat) (hx : numTxt (-20) 100000 (s.data.toList.drop (p + 1)) = (n, k, true)) (hf : flatOk 3 n ⟨#[]⟩ 0 = false) (W : World) (hT : Tabs W) :
    Calls Tryz.prog 50 #[.string s, .int .i64 (p : Int)] W (readPost none p W) := by
  have HF := Lib.hid hf
  clear hf
  have hq := fun w => readNum_txt s hs (p + 1) (by omega) (-20) 100000 (by decide) (by decide) (by decide) (by decide) w
  rw [hx] at hq
  unfold readNumE at hq
  rw [show ((p + 1 : Nat) : Int) = (p : Int) + 1 from by omega] at hq
  simp only at hq
  have HQ := Lib.hid hq
  have d01 : decide (s.size ≤ p) = false := decide_eq_false (by omega)
  have d02 : decide ((s.size : Int) ≤ (p : Int)) = false := decide_eq_false (by omega)
  have d0 : ((s[p].toNat : Int) == 34) = false := by rw [beq_eq_false_iff_ne]; omega
  have d1 : ((s[p].toNat : Int) == 64) = true := by rw [beq_iff_eq]; exact hc
  clear hc hx hq
  have hr := right_flat 3 n (by decide) ⟨#[]⟩ (by decide) none 0 0 _ (hT.below (below_two (.cells #[.int .i64 0, .int .i64 0, .string ⟨#[]⟩, .slice none 0 0] 30) (.cells #[.int .i64 3, .int .i64 n, .string ⟨#[]⟩, .slice none 0 0] 30)))
  rw [HF.out] at hr
  have hV0 : VBox ((W.alloc (.cells #[.int .i64 0, .int .i64 0, .string ⟨#[]⟩, .slice none 0 0] 30)).alloc (.cells #[.int .i64 3, .int .i64 n, .string ⟨#[]⟩, .slice none 0 0] 30)) W.heap.size 0 0 ⟨#[]⟩ (.slice none 0 0) := (VBox.new W 0 0 ⟨#[]⟩ (.slice none 0 0)).alloc _
  have hV1 : VBox ((W.alloc (.cells #[.int .i64 0, .int .i64 0, .string ⟨#[]⟩, .slice none 0 0] 30)).alloc (.cells #[.int .i64 3, .int .i64 n, .string ⟨#[]⟩, .slice none 0 0] 30)) (W.heap.size + 1) 3 n ⟨#[]⟩ (.slice none 0 0) := by
    have := VBox.new (W.alloc (.cells #[.int .i64 0, .int .i64 0, .string ⟨#[]⟩, .slice none 0 0] 30)) 3 n ⟨#[]⟩ (.slice none 0 0)
    rwa [show (W.alloc (.cells #[.int .i64 0, .int .i64 0, .string ⟨#[]⟩, .slice none 0 0] 30)).heap.size = W.heap.size + 1 from by simp] at this
  have HV0 := Lib.hid hV0
  have HV1 := Lib.hid hV1
  clear hV0 hV1
  go_enter Tryz.func50, Tryz.ntmps50
  go_wp2_with fail
  refine (HQ.out _).mono ?_
  rintro e W1 ⟨rfl, rfl⟩
  go_wp2_with fail
  refine hr.mono ?_
  rintro e W2 ⟨rfl, hB2⟩
  have hV2 := HV0.out.below hB2
  have hU2 := HV1.out.below hB2
  have hBW := below_two' _ _ hB2
  obtain ⟨⟨c0, c1, c2, c3⟩, f0, f1, f2, f3⟩ := hV2.facts
  obtain ⟨⟨v0, v1, v2, v3⟩, g0, g1, g2, g3⟩ := hU2.facts
  have HV2 := Lib.hid hV2
  have HBW := Lib.hid hBW
  clear hr hB2 hV2 hU2 hBW
  go_wp2_with fail
  have hV := HV2.out.put 0 0 ⟨#[]⟩ (.slice none 0 0)
  have hB := below_put HBW.out (b := W.heap.size) (Nat.le_refl _) 0 0 ⟨#[]⟩ (.slice none 0 0)
  unfold putBox at hV hB
  generalize (((W2.setCell ⟨W.heap.size, 0, none⟩ (.int .i64 0)).setCell ⟨W.heap.size, 1, none⟩ (.int .i64 0)).setCell ⟨W.heap.size, 2, none⟩ (.string ⟨#[]⟩)).setCell ⟨W.heap.size, 3, none⟩ (.slice none 0 0) = W9 at hV hB ⊢
  obtain ⟨⟨e0, e1, e2, e3⟩, _⟩ := hV.facts
  exact bodyPost_ret (v := .tuple #[valV 0 0 ⟨#[]⟩ (.slice none 0 0), .int .i64 0, .bool false]) (by simp [results, Tryz.results50, go_sem, e0, e1, e2, e3]) rfl ⟨hB, rfl⟩

set_option maxHeartbeats 4000000 in
set_option maxRecDepth 100000 in
theorem read_weak_none (s : ByteArray) (hs : s.size ≤ 140737488355327) (p : Nat) (hp : p < s.size) (hc : (s[p].toNat : Int) = 126) (n : Int) (k : Nat) (hx : numTxt (-20) 100000 (s.data.toList.drop (p + 1)) = (n, k, false)) (W : World) :
    Calls Tryz.prog 50 #[.string s, .int .i64 (p : Int)] W (readPost none p W) := by
  have hq := fun w => readNum_txt s hs (p + 1) (by omega) (-20) 100000 (by decide) (by decide) (by decide) (by decide) w
  rw [hx] at hq
  unfold readNumE at hq
  rw [show ((p + 1 : Nat) : Int) = (p : Int) + 1 from by omega] at hq
  simp only at hq
  have HQ := Lib.hid hq
  have d01 : decide (s.size ≤ p) = false := decide_eq_false (by omega)
  have d02 : decide ((s.size : Int) ≤ (p : Int)) = false := decide_eq_false (by omega)
  have d0 : ((s[p].toNat : Int) == 34) = false := by rw [beq_eq_false_iff_ne]; omega
  have d1 : ((s[p].toNat : Int) == 64) = false := by rw [beq_eq_false_iff_ne]; omega
  have d2 : ((s[p].toNat : Int) == 126) = true := by rw [beq_iff_eq]; exact hc
  clear hc hx hq
  go_enter Tryz.func50, Tryz.ntmps50
  go_wp2_with fail
  refine (HQ.out _).mono ?_
  rintro e W1 ⟨rfl, rfl⟩
  go_wp2_with fail
  exact bodyPost_ret (v := .tuple #[valV 0 0 ⟨#[]⟩ (.slice none 0 0), .int .i64 0, .bool false]) (by simp [results, Tryz.results50, go_sem]) rfl ⟨below_two _ _, rfl⟩

set_option maxHeartbeats 4000000 in
set_option maxRecDepth 100000 in
theorem read_weak_true (s : ByteArray) (hs : s.size ≤ 140737488355327) (p : Nat) (hp : p < s.size) (hc : (s[p].toNat : Int) = 126) (n : Int) (k : Nat) (hx : numTxt (-20) 100000 (s.data.toList.drop (p + 1)) = (n, k, true)) (hf : flatOk 4 n ⟨#[]⟩ 0 = true) (W : World) (hT : Tabs W) :
    Calls Tryz.prog 50 #[.string s, .int .i64 (p : Int)] W (readPost (some (.mk 4 n ⟨#[]⟩ [], k + 1)) p W) := by
  have HF := Lib.hid hf
  clear hf
  have hq := fun w => readNum_txt s hs (p + 1) (by omega) (-20) 100000 (by decide) (by decide) (by decide) (by decide) w
  rw [hx] at hq
  unfold readNumE at hq
  rw [show ((p + 1 : Nat) : Int) = (p : Int) + 1 from by omega] at hq
  simp only at hq
  have HQ := Lib.hid hq
  have d01 : decide (s.size ≤ p) = false := decide_eq_false (by omega)
  have d02 : decide ((s.size : Int) ≤ (p : Int)) = false := decide_eq_false (by omega)
  have d0 : ((s[p].toNat : Int) == 34) = false := by rw [beq_eq_false_iff_ne]; omega
  have d1 : ((s[p].toNat : Int) == 64) = false := by rw [beq_eq_false_iff_ne]; omega
  have d2 : ((s[p].toNat : Int) == 126) = true := by rw [beq_iff_eq]; exact hc
  clear hc hx hq
  have hr := right_flat 4 n (by decide) ⟨#[]⟩ (by decide) none 0 0 _ (hT.below (below_two (.cells #[.int .i64 0, .int .i64 0, .string ⟨#[]⟩, .slice none 0 0] 30) (.cells #[.int .i64 4, .int .i64 n, .string ⟨#[]⟩, .slice none 0 0] 30)))
  rw [HF.out] at hr
  have hV0 : VBox ((W.alloc (.cells #[.int .i64 0, .int .i64 0, .string ⟨#[]⟩, .slice none 0 0] 30)).alloc (.cells #[.int .i64 4, .int .i64 n, .string ⟨#[]⟩, .slice none 0 0] 30)) W.heap.size 0 0 ⟨#[]⟩ (.slice none 0 0) := (VBox.new W 0 0 ⟨#[]⟩ (.slice none 0 0)).alloc _
  have hV1 : VBox ((W.alloc (.cells #[.int .i64 0, .int .i64 0, .string ⟨#[]⟩, .slice none 0 0] 30)).alloc (.cells #[.int .i64 4, .int .i64 n, .string ⟨#[]⟩, .slice none 0 0] 30)) (W.heap.size + 1) 4 n ⟨#[]⟩ (.slice none 0 0) := by
    have := VBox.new (W.alloc (.cells #[.int .i64 0, .int .i64 0, .string ⟨#[]⟩, .slice none 0 0] 30)) 4 n ⟨#[]⟩ (.slice none 0 0)
    rwa [show (W.alloc (.cells #[.int .i64 0, .int .i64 0, .string ⟨#[]⟩, .slice none 0 0] 30)).heap.size = W.heap.size + 1 from by simp] at this
  have HV0 := Lib.hid hV0
  have HV1 := Lib.hid hV1
  clear hV0 hV1
  go_enter Tryz.func50, Tryz.ntmps50
  go_wp2_with fail
  refine (HQ.out _).mono ?_
  rintro e W1 ⟨rfl, rfl⟩
  go_wp2_with fail
  refine hr.mono ?_
  rintro e W2 ⟨rfl, hB2⟩
  have hV2 := HV0.out.below hB2
  have hU2 := HV1.out.below hB2
  have hBW := below_two' _ _ hB2
  obtain ⟨⟨c0, c1, c2, c3⟩, f0, f1, f2, f3⟩ := hV2.facts
  obtain ⟨⟨v0, v1, v2, v3⟩, g0, g1, g2, g3⟩ := hU2.facts
  have HV2 := Lib.hid hV2
  have HBW := Lib.hid hBW
  clear hr hB2 hV2 hU2 hBW
  go_wp2_with fail
  have hV := HV2.out.put 4 n ⟨#[]⟩ (.slice none 0 0)
  have hB := below_put HBW.out (b := W.heap.size) (Nat.le_refl _) 4 n ⟨#[]⟩ (.slice none 0 0)
  unfold putBox at hV hB
  generalize (((W2.setCell ⟨W.heap.size, 0, none⟩ (.int .i64 4)).setCell ⟨W.heap.size, 1, none⟩ (.int .i64 n)).setCell ⟨W.heap.size, 2, none⟩ (.string ⟨#[]⟩)).setCell ⟨W.heap.size, 3, none⟩ (.slice none 0 0) = W9 at hV hB ⊢
  obtain ⟨⟨e0, e1, e2, e3⟩, _⟩ := hV.facts
  exact bodyPost_ret (v := .tuple #[valV 4 n ⟨#[]⟩ (.slice none 0 0), .int .i64 (((p : Int) + 1) + (k : Nat)), .bool true]) (by simp [results, Tryz.results50, go_sem, e0, e1, e2, e3]) rfl ⟨hB, by show _ = Ending.returned (.tuple #[valV 4 n ⟨#[]⟩ (.slice none 0 0), .int .i64 ((p : Int) + ((k + 1 : Nat) : Int)), .bool true]); rw [show (p : Int) + ((k + 1 : Nat) : Int) = (p : Int) + 1 + (k : Nat) from by omega]⟩

set_option maxHeartbeats 4000000 in
set_option maxRecDepth 100000 in
theorem read_weak_false (s : ByteArray) (hs : s.size ≤ 140737488355327) (p : Nat) (hp : p < s.size) (hc : (s[p].toNat : Int) = 126) (n : Int) (k : Nat) (hx : numTxt (-20) 100000 (s.data.toList.drop (p + 1)) = (n, k, true)) (hf : flatOk 4 n ⟨#[]⟩ 0 = false) (W : World) (hT : Tabs W) :
    Calls Tryz.prog 50 #[.string s, .int .i64 (p : Int)] W (readPost none p W) := by
  have HF := Lib.hid hf
  clear hf
  have hq := fun w => readNum_txt s hs (p + 1) (by omega) (-20) 100000 (by decide) (by decide) (by decide) (by decide) w
  rw [hx] at hq
  unfold readNumE at hq
  rw [show ((p + 1 : Nat) : Int) = (p : Int) + 1 from by omega] at hq
  simp only at hq
  have HQ := Lib.hid hq
  have d01 : decide (s.size ≤ p) = false := decide_eq_false (by omega)
  have d02 : decide ((s.size : Int) ≤ (p : Int)) = false := decide_eq_false (by omega)
  have d0 : ((s[p].toNat : Int) == 34) = false := by rw [beq_eq_false_iff_ne]; omega
  have d1 : ((s[p].toNat : Int) == 64) = false := by rw [beq_eq_false_iff_ne]; omega
  have d2 : ((s[p].toNat : Int) == 126) = true := by rw [beq_iff_eq]; exact hc
  clear hc hx hq
  have hr := right_flat 4 n (by decide) ⟨#[]⟩ (by decide) none 0 0 _ (hT.below (below_two (.cells #[.int .i64 0, .int .i64 0, .string ⟨#[]⟩, .slice none 0 0] 30) (.cells #[.int .i64 4, .int .i64 n, .string ⟨#[]⟩, .slice none 0 0] 30)))
  rw [HF.out] at hr
  have hV0 : VBox ((W.alloc (.cells #[.int .i64 0, .int .i64 0, .string ⟨#[]⟩, .slice none 0 0] 30)).alloc (.cells #[.int .i64 4, .int .i64 n, .string ⟨#[]⟩, .slice none 0 0] 30)) W.heap.size 0 0 ⟨#[]⟩ (.slice none 0 0) := (VBox.new W 0 0 ⟨#[]⟩ (.slice none 0 0)).alloc _
  have hV1 : VBox ((W.alloc (.cells #[.int .i64 0, .int .i64 0, .string ⟨#[]⟩, .slice none 0 0] 30)).alloc (.cells #[.int .i64 4, .int .i64 n, .string ⟨#[]⟩, .slice none 0 0] 30)) (W.heap.size + 1) 4 n ⟨#[]⟩ (.slice none 0 0) := by
    have := VBox.new (W.alloc (.cells #[.int .i64 0, .int .i64 0, .string ⟨#[]⟩, .slice none 0 0] 30)) 4 n ⟨#[]⟩ (.slice none 0 0)
    rwa [show (W.alloc (.cells #[.int .i64 0, .int .i64 0, .string ⟨#[]⟩, .slice none 0 0] 30)).heap.size = W.heap.size + 1 from by simp] at this
  have HV0 := Lib.hid hV0
  have HV1 := Lib.hid hV1
  clear hV0 hV1
  go_enter Tryz.func50, Tryz.ntmps50
  go_wp2_with fail
  refine (HQ.out _).mono ?_
  rintro e W1 ⟨rfl, rfl⟩
  go_wp2_with fail
  refine hr.mono ?_
  rintro e W2 ⟨rfl, hB2⟩
  have hV2 := HV0.out.below hB2
  have hU2 := HV1.out.below hB2
  have hBW := below_two' _ _ hB2
  obtain ⟨⟨c0, c1, c2, c3⟩, f0, f1, f2, f3⟩ := hV2.facts
  obtain ⟨⟨v0, v1, v2, v3⟩, g0, g1, g2, g3⟩ := hU2.facts
  have HV2 := Lib.hid hV2
  have HBW := Lib.hid hBW
  clear hr hB2 hV2 hU2 hBW
  go_wp2_with fail
  have hV := HV2.out.put 0 0 ⟨#[]⟩ (.slice none 0 0)
  have hB := below_put HBW.out (b := W.heap.size) (Nat.le_refl _) 0 0 ⟨#[]⟩ (.slice none 0 0)
  unfold putBox at hV hB
  generalize (((W2.setCell ⟨W.heap.size, 0, none⟩ (.int .i64 0)).setCell ⟨W.heap.size, 1, none⟩ (.int .i64 0)).setCell ⟨W.heap.size, 2, none⟩ (.string ⟨#[]⟩)).setCell ⟨W.heap.size, 3, none⟩ (.slice none 0 0) = W9 at hV hB ⊢
  obtain ⟨⟨e0, e1, e2, e3⟩, _⟩ := hV.facts
  exact bodyPost_ret (v := .tuple #[valV 0 0 ⟨#[]⟩ (.slice none 0 0), .int .i64 0, .bool false]) (by simp [results, Tryz.results50, go_sem, e0, e1, e2, e3]) rfl ⟨hB, rfl⟩

set_option maxHeartbeats 4000000 in
set_option maxRecDepth 100000 in
theorem read_num_none (s : ByteArray) (hs : s.size ≤ 140737488355327) (p : Nat) (hp : p < s.size) (hc : (s[p].toNat : Int) ≠ 34 ∧ (s[p].toNat : Int) ≠ 64 ∧ (s[p].toNat : Int) ≠ 126) (h45 : (s[p].toNat : Int) ≠ 45) (n : Int) (k : Nat) (hx : numTxt (-1000000000000000) 1000000000000000 (s.data.toList.drop (p)) = (n, k, false)) (W : World) :
    Calls Tryz.prog 50 #[.string s, .int .i64 (p : Int)] W (readPost none p W) := by
  have d9 : ((s[p].toNat : Int) == 45) = false := by rw [beq_eq_false_iff_ne]; exact h45
  clear h45
  have hq := fun w => readNum_txt s hs (p) (by omega) (-1000000000000000) 1000000000000000 (by decide) (by decide) (by decide) (by decide) w
  rw [hx] at hq
  unfold readNumE at hq
  simp only at hq
  have HQ := Lib.hid hq
  have d01 : decide (s.size ≤ p) = false := decide_eq_false (by omega)
  have d02 : decide ((s.size : Int) ≤ (p : Int)) = false := decide_eq_false (by omega)
  have d0 : ((s[p].toNat : Int) == 34) = false := by rw [beq_eq_false_iff_ne]; omega
  have d1 : ((s[p].toNat : Int) == 64) = false := by rw [beq_eq_false_iff_ne]; omega
  have d2 : ((s[p].toNat : Int) == 126) = false := by rw [beq_eq_false_iff_ne]; omega
  clear hc hx hq
  go_enter Tryz.func50, Tryz.ntmps50
  go_wp2_with fail
  refine (HQ.out _).mono ?_
  rintro e W1 ⟨rfl, rfl⟩
  go_wp2_with fail
  exact bodyPost_ret (v := .tuple #[valV 0 0 ⟨#[]⟩ (.slice none 0 0), .int .i64 0, .bool false]) (by simp [results, Tryz.results50, go_sem]) rfl ⟨below_two _ _, rfl⟩

set_option maxHeartbeats 4000000 in
set_option maxRecDepth 100000 in
theorem read_num_nil (s : ByteArray) (hs : s.size ≤ 140737488355327) (p : Nat) (hp : p < s.size) (hc : (s[p].toNat : Int) ≠ 34 ∧ (s[p].toNat : Int) ≠ 64 ∧ (s[p].toNat : Int) ≠ 126) (h45 : (s[p].toNat : Int) = 45) (n : Int) (k : Nat) (hx : numTxt (-1000000000000000) 1000000000000000 (s.data.toList.drop (p)) = (n, k, false)) (W : World) :
    Calls Tryz.prog 50 #[.string s, .int .i64 (p : Int)] W (readPost (some (.mk 0 0 ⟨#[]⟩ [], 1)) p W) := by
  have d9 : ((s[p].toNat : Int) == 45) = true := by rw [beq_iff_eq]; exact h45
  have hq := fun w => readNum_txt s hs (p) (by omega) (-1000000000000000) 1000000000000000 (by decide) (by decide) (by decide) (by decide) w
  rw [hx] at hq
  unfold readNumE at hq
  simp only at hq
  have HQ := Lib.hid hq
  have d01 : decide (s.size ≤ p) = false := decide_eq_false (by omega)
  have d02 : decide ((s.size : Int) ≤ (p : Int)) = false := decide_eq_false (by omega)
  have d0 : ((s[p].toNat : Int) == 34) = false := by rw [beq_eq_false_iff_ne]; omega
  have d1 : ((s[p].toNat : Int) == 64) = false := by rw [beq_eq_false_iff_ne]; omega
  have d2 : ((s[p].toNat : Int) == 126) = false := by rw [beq_eq_false_iff_ne]; omega
  clear hc hx hq
  clear h45
  go_enter Tryz.func50, Tryz.ntmps50
  go_wp2_with fail
  refine (HQ.out _).mono ?_
  rintro e W1 ⟨rfl, rfl⟩
  go_wp2_with fail
  exact bodyPost_ret (v := .tuple #[valV 0 0 ⟨#[]⟩ (.slice none 0 0), .int .i64 ((p : Int) + 1), .bool true]) (by simp [results, Tryz.results50, go_sem]) rfl ⟨below_two _ _, rfl⟩

set_option maxHeartbeats 4000000 in
set_option maxRecDepth 100000 in
theorem read_num_true (s : ByteArray) (hs : s.size ≤ 140737488355327) (p : Nat) (hp : p < s.size) (hc : (s[p].toNat : Int) ≠ 34 ∧ (s[p].toNat : Int) ≠ 64 ∧ (s[p].toNat : Int) ≠ 126) (n : Int) (k : Nat) (hx : numTxt (-1000000000000000) 1000000000000000 (s.data.toList.drop (p)) = (n, k, true)) (hf : flatOk 1 n ⟨#[]⟩ 0 = true) (W : World) (hT : Tabs W) :
    Calls Tryz.prog 50 #[.string s, .int .i64 (p : Int)] W (readPost (some (.mk 1 n ⟨#[]⟩ [], k)) p W) := by
  have HF := Lib.hid hf
  clear hf
  have hq := fun w => readNum_txt s hs (p) (by omega) (-1000000000000000) 1000000000000000 (by decide) (by decide) (by decide) (by decide) w
  rw [hx] at hq
  unfold readNumE at hq
  simp only at hq
  have HQ := Lib.hid hq
  have d01 : decide (s.size ≤ p) = false := decide_eq_false (by omega)
  have d02 : decide ((s.size : Int) ≤ (p : Int)) = false := decide_eq_false (by omega)
  have d0 : ((s[p].toNat : Int) == 34) = false := by rw [beq_eq_false_iff_ne]; omega
  have d1 : ((s[p].toNat : Int) == 64) = false := by rw [beq_eq_false_iff_ne]; omega
  have d2 : ((s[p].toNat : Int) == 126) = false := by rw [beq_eq_false_iff_ne]; omega
  clear hc hx hq
  have hr := right_flat 1 n (by decide) ⟨#[]⟩ (by decide) none 0 0 _ (hT.below (below_two (.cells #[.int .i64 0, .int .i64 0, .string ⟨#[]⟩, .slice none 0 0] 30) (.cells #[.int .i64 1, .int .i64 n, .string ⟨#[]⟩, .slice none 0 0] 30)))
  rw [HF.out] at hr
  have hV0 : VBox ((W.alloc (.cells #[.int .i64 0, .int .i64 0, .string ⟨#[]⟩, .slice none 0 0] 30)).alloc (.cells #[.int .i64 1, .int .i64 n, .string ⟨#[]⟩, .slice none 0 0] 30)) W.heap.size 0 0 ⟨#[]⟩ (.slice none 0 0) := (VBox.new W 0 0 ⟨#[]⟩ (.slice none 0 0)).alloc _
  have hV1 : VBox ((W.alloc (.cells #[.int .i64 0, .int .i64 0, .string ⟨#[]⟩, .slice none 0 0] 30)).alloc (.cells #[.int .i64 1, .int .i64 n, .string ⟨#[]⟩, .slice none 0 0] 30)) (W.heap.size + 1) 1 n ⟨#[]⟩ (.slice none 0 0) := by
    have := VBox.new (W.alloc (.cells #[.int .i64 0, .int .i64 0, .string ⟨#[]⟩, .slice none 0 0] 30)) 1 n ⟨#[]⟩ (.slice none 0 0)
    rwa [show (W.alloc (.cells #[.int .i64 0, .int .i64 0, .string ⟨#[]⟩, .slice none 0 0] 30)).heap.size = W.heap.size + 1 from by simp] at this
  have HV0 := Lib.hid hV0
  have HV1 := Lib.hid hV1
  clear hV0 hV1
  go_enter Tryz.func50, Tryz.ntmps50
  go_wp2_with fail
  refine (HQ.out _).mono ?_
  rintro e W1 ⟨rfl, rfl⟩
  go_wp2_with fail
  refine hr.mono ?_
  rintro e W2 ⟨rfl, hB2⟩
  have hV2 := HV0.out.below hB2
  have hU2 := HV1.out.below hB2
  have hBW := below_two' _ _ hB2
  obtain ⟨⟨c0, c1, c2, c3⟩, f0, f1, f2, f3⟩ := hV2.facts
  obtain ⟨⟨v0, v1, v2, v3⟩, g0, g1, g2, g3⟩ := hU2.facts
  have HV2 := Lib.hid hV2
  have HBW := Lib.hid hBW
  clear hr hB2 hV2 hU2 hBW
  go_wp2_with fail
  have hV := HV2.out.put 1 n ⟨#[]⟩ (.slice none 0 0)
  have hB := below_put HBW.out (b := W.heap.size) (Nat.le_refl _) 1 n ⟨#[]⟩ (.slice none 0 0)
  unfold putBox at hV hB
  generalize (((W2.setCell ⟨W.heap.size, 0, none⟩ (.int .i64 1)).setCell ⟨W.heap.size, 1, none⟩ (.int .i64 n)).setCell ⟨W.heap.size, 2, none⟩ (.string ⟨#[]⟩)).setCell ⟨W.heap.size, 3, none⟩ (.slice none 0 0) = W9 at hV hB ⊢
  obtain ⟨⟨e0, e1, e2, e3⟩, _⟩ := hV.facts
  exact bodyPost_ret (v := .tuple #[valV 1 n ⟨#[]⟩ (.slice none 0 0), .int .i64 ((p : Int) + (k : Nat)), .bool true]) (by simp [results, Tryz.results50, go_sem, e0, e1, e2, e3]) rfl ⟨hB, rfl⟩

set_option maxHeartbeats 4000000 in
set_option maxRecDepth 100000 in
theorem read_num_false (s : ByteArray) (hs : s.size ≤ 140737488355327) (p : Nat) (hp : p < s.size) (hc : (s[p].toNat : Int) ≠ 34 ∧ (s[p].toNat : Int) ≠ 64 ∧ (s[p].toNat : Int) ≠ 126) (n : Int) (k : Nat) (hx : numTxt (-1000000000000000) 1000000000000000 (s.data.toList.drop (p)) = (n, k, true)) (hf : flatOk 1 n ⟨#[]⟩ 0 = false) (W : World) (hT : Tabs W) :
    Calls Tryz.prog 50 #[.string s, .int .i64 (p : Int)] W (readPost none p W) := by
  have HF := Lib.hid hf
  clear hf
  have hq := fun w => readNum_txt s hs (p) (by omega) (-1000000000000000) 1000000000000000 (by decide) (by decide) (by decide) (by decide) w
  rw [hx] at hq
  unfold readNumE at hq
  simp only at hq
  have HQ := Lib.hid hq
  have d01 : decide (s.size ≤ p) = false := decide_eq_false (by omega)
  have d02 : decide ((s.size : Int) ≤ (p : Int)) = false := decide_eq_false (by omega)
  have d0 : ((s[p].toNat : Int) == 34) = false := by rw [beq_eq_false_iff_ne]; omega
  have d1 : ((s[p].toNat : Int) == 64) = false := by rw [beq_eq_false_iff_ne]; omega
  have d2 : ((s[p].toNat : Int) == 126) = false := by rw [beq_eq_false_iff_ne]; omega
  clear hc hx hq
  have hr := right_flat 1 n (by decide) ⟨#[]⟩ (by decide) none 0 0 _ (hT.below (below_two (.cells #[.int .i64 0, .int .i64 0, .string ⟨#[]⟩, .slice none 0 0] 30) (.cells #[.int .i64 1, .int .i64 n, .string ⟨#[]⟩, .slice none 0 0] 30)))
  rw [HF.out] at hr
  have hV0 : VBox ((W.alloc (.cells #[.int .i64 0, .int .i64 0, .string ⟨#[]⟩, .slice none 0 0] 30)).alloc (.cells #[.int .i64 1, .int .i64 n, .string ⟨#[]⟩, .slice none 0 0] 30)) W.heap.size 0 0 ⟨#[]⟩ (.slice none 0 0) := (VBox.new W 0 0 ⟨#[]⟩ (.slice none 0 0)).alloc _
  have hV1 : VBox ((W.alloc (.cells #[.int .i64 0, .int .i64 0, .string ⟨#[]⟩, .slice none 0 0] 30)).alloc (.cells #[.int .i64 1, .int .i64 n, .string ⟨#[]⟩, .slice none 0 0] 30)) (W.heap.size + 1) 1 n ⟨#[]⟩ (.slice none 0 0) := by
    have := VBox.new (W.alloc (.cells #[.int .i64 0, .int .i64 0, .string ⟨#[]⟩, .slice none 0 0] 30)) 1 n ⟨#[]⟩ (.slice none 0 0)
    rwa [show (W.alloc (.cells #[.int .i64 0, .int .i64 0, .string ⟨#[]⟩, .slice none 0 0] 30)).heap.size = W.heap.size + 1 from by simp] at this
  have HV0 := Lib.hid hV0
  have HV1 := Lib.hid hV1
  clear hV0 hV1
  go_enter Tryz.func50, Tryz.ntmps50
  go_wp2_with fail
  refine (HQ.out _).mono ?_
  rintro e W1 ⟨rfl, rfl⟩
  go_wp2_with fail
  refine hr.mono ?_
  rintro e W2 ⟨rfl, hB2⟩
  have hV2 := HV0.out.below hB2
  have hU2 := HV1.out.below hB2
  have hBW := below_two' _ _ hB2
  obtain ⟨⟨c0, c1, c2, c3⟩, f0, f1, f2, f3⟩ := hV2.facts
  obtain ⟨⟨v0, v1, v2, v3⟩, g0, g1, g2, g3⟩ := hU2.facts
  have HV2 := Lib.hid hV2
  have HBW := Lib.hid hBW
  clear hr hB2 hV2 hU2 hBW
  go_wp2_with fail
  have hV := HV2.out.put 0 0 ⟨#[]⟩ (.slice none 0 0)
  have hB := below_put HBW.out (b := W.heap.size) (Nat.le_refl _) 0 0 ⟨#[]⟩ (.slice none 0 0)
  unfold putBox at hV hB
  generalize (((W2.setCell ⟨W.heap.size, 0, none⟩ (.int .i64 0)).setCell ⟨W.heap.size, 1, none⟩ (.int .i64 0)).setCell ⟨W.heap.size, 2, none⟩ (.string ⟨#[]⟩)).setCell ⟨W.heap.size, 3, none⟩ (.slice none 0 0) = W9 at hV hB ⊢
  obtain ⟨⟨e0, e1, e2, e3⟩, _⟩ := hV.facts
  exact bodyPost_ret (v := .tuple #[valV 0 0 ⟨#[]⟩ (.slice none 0 0), .int .i64 0, .bool false]) (by simp [results, Tryz.results50, go_sem, e0, e1, e2, e3]) rfl ⟨hB, rfl⟩

theorem unqAt_lt (s : ByteArray) : ∀ (n j : Nat) (acc : List UInt8), s.size - j ≤ n → ∀ t k, unqAt s j acc = some (t, k) → j < k ∧ k ≤ s.size ∧ t.length + j ≤ acc.length + k := by
  intro n
  induction n using Nat.strongRecOn with
  | _ n ih =>
    intro j acc hn t k h
    by_cases hlt : j < s.size
    · by_cases h34 : (s[j].toNat : Int) = 34
      · rw [unqAt_quote s j hlt acc h34] at h
        cases h
        omega
      · by_cases h92 : (s[j].toNat : Int) = 92
        · by_cases hj1 : j + 1 < s.size
          · by_cases e : (s[j + 1].toNat : Int) = 34 ∨ (s[j + 1].toNat : Int) = 92
            · rw [unqAt_back s j hlt acc h92 hj1 e] at h
              have := ih (s.size - (j + 2)) (by omega) (j + 2) _ (by omega) t k h
              simp at this
              omega
            · rw [unqAt_back_bad s j hlt acc h92 hj1 (fun h => e (.inl h)) (fun h => e (.inr h))] at h
              cases h
          · rw [unqAt_back_end s j hlt acc h92 (by omega)] at h
            cases h
        · rw [unqAt_plain s j hlt acc h34 h92] at h
          have := ih (s.size - (j + 1)) (by omega) (j + 1) _ (by omega) t k h
          simp at this
          omega
    · unfold unqAt at h
      rw [drop_end s j (by omega)] at h
      cases h

/-- val.read, at any place -/
theorem read_any (s : ByteArray) (hs : s.size ≤ 140737488355327) (p : Nat) (W : World) (hT : Tabs W) :
    Calls Tryz.prog 50 #[.string s, .int .i64 (p : Int)] W (readPost (readIn (s.data.toList.drop p)) p W) := by
  by_cases hp : p < s.size
  · rw [dropAt s p hp]
    unfold readIn
    show Calls _ _ _ _ (readPost (if _ then _ else _) p W)
    have hu : ∀ c : UInt8, s[p] = c ↔ (s[p].toNat : Int) = (c.toNat : Int) := fun c => ⟨fun h => by rw [h], fun h => UInt8.toNat_inj.1 (by omega)⟩
    by_cases h34 : s[p] = 34
    · rw [if_pos h34]
      have hc : (s[p].toNat : Int) = 34 := (hu 34).1 h34
      cases hq : unqAt s (p + 1) [] with
      | none =>
        have hq2 : unq [] (s.data.toList.drop (p + 1)) = none := by
          unfold unqAt at hq
          cases h : unq [] (s.data.toList.drop (p + 1)) with
          | none => rfl
          | some x => rw [h] at hq; cases hq
        rw [hq2]
        exact read_text_none s hs p hp hc hq W
      | some x =>
        obtain ⟨t, k⟩ := x
        have hlt := unqAt_lt s _ (p + 1) [] (Nat.le_refl _) t k hq
        obtain ⟨k', hq2, hk⟩ : ∃ k', unq [] (s.data.toList.drop (p + 1)) = some (t, k') ∧ k = k' + (p + 1) := by
          unfold unqAt at hq
          cases h : unq [] (s.data.toList.drop (p + 1)) with
          | none => rw [h] at hq; cases hq
          | some x => rw [h] at hq; cases hq; exact ⟨_, rfl, rfl⟩
        rw [hq2]
        simp only
        have hts : t.length ≤ 9223372036854775807 := by have := hlt.2.2; simp at this; omega
        by_cases hf : flatOk 2 0 ⟨t.toArray⟩ 0 = true
        · rw [if_pos hf]
          have := read_text_true s hs p hp hc t k (by omega) hq hts hf W hT
          rwa [show k - p = k' + 1 from by omega] at this
        · rw [if_neg hf]
          exact read_text_false s hs p hp hc t k (by omega) hq hts (Bool.eq_false_iff.2 hf) W hT
    · rw [if_neg h34]
      have n34 : (s[p].toNat : Int) ≠ 34 := fun h => h34 ((hu 34).2 h)
      by_cases h64 : s[p] = 64
      · rw [if_pos h64]
        have hc : (s[p].toNat : Int) = 64 := (hu 64).1 h64
        obtain ⟨⟨n, k, ok⟩, hx⟩ : ∃ x, numTxt (-20) 100000 (s.data.toList.drop (p + 1)) = x := ⟨_, rfl⟩
        rw [hx]
        cases ok with
        | false => rw [if_neg (by simp)]; exact read_ref_none s hs p hp hc n k hx W
        | true =>
          by_cases hf : flatOk 3 n ⟨#[]⟩ 0 = true
          · rw [if_pos ⟨rfl, hf⟩]; exact read_ref_true s hs p hp hc n k hx hf W hT
          · rw [if_neg (fun h => hf h.2)]; exact read_ref_false s hs p hp hc n k hx (Bool.eq_false_iff.2 hf) W hT
      · rw [if_neg h64]
        have n64 : (s[p].toNat : Int) ≠ 64 := fun h => h64 ((hu 64).2 h)
        by_cases h126 : s[p] = 126
        · rw [if_pos h126]
          have hc : (s[p].toNat : Int) = 126 := (hu 126).1 h126
          obtain ⟨⟨n, k, ok⟩, hx⟩ : ∃ x, numTxt (-20) 100000 (s.data.toList.drop (p + 1)) = x := ⟨_, rfl⟩
          rw [hx]
          cases ok with
          | false => rw [if_neg (by simp)]; exact read_weak_none s hs p hp hc n k hx W
          | true =>
            by_cases hf : flatOk 4 n ⟨#[]⟩ 0 = true
            · rw [if_pos ⟨rfl, hf⟩]; exact read_weak_true s hs p hp hc n k hx hf W hT
            · rw [if_neg (fun h => hf h.2)]; exact read_weak_false s hs p hp hc n k hx (Bool.eq_false_iff.2 hf) W hT
        · rw [if_neg h126]
          have n126 : (s[p].toNat : Int) ≠ 126 := fun h => h126 ((hu 126).2 h)
          rw [← dropAt s p hp]
          obtain ⟨⟨n, k, ok⟩, hx⟩ : ∃ x, numTxt (-1000000000000000) 1000000000000000 (s.data.toList.drop p) = x := ⟨_, rfl⟩
          rw [hx]
          cases ok with
          | true =>
            rw [if_pos rfl]
            by_cases hf : flatOk 1 n ⟨#[]⟩ 0 = true
            · rw [if_pos hf]; exact read_num_true s hs p hp ⟨n34, n64, n126⟩ n k hx hf W hT
            · rw [if_neg hf]; exact read_num_false s hs p hp ⟨n34, n64, n126⟩ n k hx (Bool.eq_false_iff.2 hf) W hT
          | false =>
            rw [if_neg (by simp)]
            by_cases h45 : s[p] = 45
            · rw [if_pos h45]; exact read_num_nil s hs p hp ⟨n34, n64, n126⟩ ((hu 45).1 h45) n k hx W
            · rw [if_neg h45]; exact read_num_none s hs p hp ⟨n34, n64, n126⟩ (fun h => h45 ((hu 45).2 h)) n k hx W
  · rw [drop_end s p (by omega)]
    exact read_end s p (by omega) W
end Go.Proofs.YtmijlcilnaeppaaGreatDoor

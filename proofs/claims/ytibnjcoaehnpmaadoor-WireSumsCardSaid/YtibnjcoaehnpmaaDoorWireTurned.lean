/- turned: two texts of one length, of at most three hundred bytes, byte by byte. -/
import Derived.Test.YtibnjcoaehnpmaaDoorWireShown
import Derived.Test.YtibnjcoaehnpmaaDoorWireCrcMore
import Derived.Deep.RegionHeld3
import Derived.Deep.AppendLies
namespace Go.Proofs.YtibnjcoaehnpmaaDoor
open Go Go.RowKit Go.Shelf Go.Sort
attribute [local go_sem] Oper.semAt_some

theorem u8_xor (x y : UInt8) : bits .xor .u8 (x.toNat : Int) (y.toNat : Int) = ((x ^^^ y).toNat : Int) := by
  have h : bits .xor .u8 (x.toNat : Int) (y.toNat : Int) = ((x.toNat ^^^ y.toNat : Nat) : Int) := by
    generalize hy : y.toNat = b
    have := x.toNat_lt
    have hb : b < 256 := by have := y.toNat_lt; omega
    exact u8_xor_nat _ _ (by omega) hb
  rw [h, UInt8.toNat_xor]

set_option maxRecDepth 100000 in
set_option maxHeartbeats 2000000 in
theorem turned_any (s t : ByteArray) (hst : t.size = s.size) (hs : s.size ≤ 300) (w : World) :
    Calls Tryd.prog 11 #[.string s, .string t] w fun e w' => e = .returned (.string ⟨(Wire.xors s.data.toList t.data.toList).toArray⟩) ∧ Below w.heap.size w w' := by
  obtain ⟨i0, hi, hz0, hz1, hz2⟩ := info_parts infoU8
  have HST := Lib.hid hst; clear hst
  go_enter Tryd.func11, Tryd.ntmps11
  go_wp2
  go_loopw [5, 6] (fun v i wr => ∃ k : Nat, k ≤ s.size ∧ i = .int .i64 (k : Int) ∧ wr.ownsRow w.heap.size 5 1 v k ((Wire.xors (s.data.toList.take k) (t.data.toList.take k)).map u8v) ∧ (k = 0 → v = .slice none 0 0) ∧ Below w.heap.size w wr) (fun _ i _ => s.size - (intOf i).toNat)
  case atStart => exact ⟨0, Nat.zero_le _, rfl, World.ownsRow_nil _ _ _ _, fun _ => rfl, Below.refl _ _⟩
  case round =>
    obtain ⟨k, hk, rfl, hrow, hnil, hB⟩ := hrel
    have HN := Lib.hid hnil; clear hnil
    by_cases hlt : k < s.size
    · have hlt' : k < t.size := by rw [HST.out]; exact hlt
      have d1 : decide (k < s.size) = true := decide_eq_true hlt
      have d2 : decide (k < t.size) = true := decide_eq_true hlt'
      have d3 : decide ((k : Int) < 300) = true := decide_eq_true (by omega)
      have d0 : (0 : Int) ≤ (k : Int) := by omega
      have hz := hB.size
      have hx := u8_xor s[k] t[k]
      go_wp2_with fail
      go_region_held3 (fun w' => w'.heap.size = wr.heap.size ∨ True) (exact .inr trivial)
        ((refine step_append_lies _ (by rfl) _ _ _ (by rfl) w.heap.size 5 i0 _ 1 1 Tryd.underlying29 hi hz0 hz1 hz2 rfl (by omega) _ k _ (by rfl) ((hrow.alloc _).drew)
            ⟨wr.heap.size, 0, none⟩ 1 1 [u8v (s[k] ^^^ t[k])] (by rfl) (by rfl) (World.news_of_block (cs := #[u8v (s[k] ^^^ t[k])]) (t := 5) (fr := (0, 0)) (heap_alloc_new wr _)) (by simp [Value.oneCell', u8v])
            (by omega) (by simp [maxLen]; omega) (by omega) (by simp; omega) (wr.heap.size + 1) (by simp) ?_; intro gg cap w1 hown1 hgrow hat hlt2))
      all_goals (
        have hB1 : Below w.heap.size w w1 := ((hB.alloc hz _).drew).grown hgrow (by simp; omega) (fun g hg => (hrow.lt g hg).1)
        have hr1 : w1.ownsRow w.heap.size 5 1 (.slice (some ⟨gg, 0, none⟩) (k + 1) cap) (k + 1) ((Wire.xors (s.data.toList.take (k + 1)) (t.data.toList.take (k + 1))).map u8v) := by
          rw [Wire.xors_take _ _ k (by simpa using hlt) (by simpa using hlt'), List.map_append]
          exact hown1
        clear hx hown1 hgrow hat hlt2 d1 d2 d3
        go_wp2
        exact ⟨⟨k + 1, by omega, by go_num, hr1, by omega, hB1⟩, by simp [intOf]; omega⟩)
    · obtain rfl : k = s.size := by omega
      have d1 : decide (s.size < s.size) = false := by simp
      have el : s.data.toList.take s.size = s.data.toList := List.take_of_length_le (by simp)
      have el' : t.data.toList.take s.size = t.data.toList := List.take_of_length_le (by rw [← HST.out]; simp)
      rw [el, el'] at hrow
      clear el el'
      have hlen : (Wire.xors s.data.toList t.data.toList).length = s.size := by rw [Wire.xors_length _ _ (by simp [HST.out])]; simp
      have HL := Lib.hid hlen; clear hlen
      by_cases h0 : s.size = 0
      · have hv := HN.out h0
        subst hv
        have he : Wire.xors s.data.toList t.data.toList = [] := List.eq_nil_of_length_eq_zero (by rw [HL.out, h0])
        have HE := Lib.hid he; clear he
        have hconv := run_convert_bytes_nil (P := Tryd.prog) wr 29 5 Tryd.underlying29 Tryd.underlying5 0 0 9 Tryd.underlying9
        have H0 := Lib.hid h0; clear h0
        go_wp2
        go_ret
        exact ⟨by rw [HE.out]; rfl, hB⟩
      · obtain ⟨g, cap, rfl, hg1, hg2⟩ := hrow.form (by omega)
        have hconv : (convert 29 9 (.slice (some ⟨g, 0, none⟩) s.size cap)).run Tryd.prog wr = .ok (.string ⟨(Wire.xors s.data.toList t.data.toList).toArray⟩) wr := by
          have := run_convert_bytes_back (P := Tryd.prog) wr 29 9 5 ⟨g, 0, none⟩ cap (Wire.xors s.data.toList t.data.toList) Tryd.underlying29 Tryd.underlying5 Tryd.underlying9 (fun j hj => by
            have hcj := hrow.cells (g := g) rfl j (u8v (Wire.xors s.data.toList t.data.toList)[j]) (by
              rw [List.getElem?_map, List.getElem?_eq_getElem hj]; rfl)
            exact hcj)
          rw [HL.out] at this
          exact this
        go_wp2
        go_ret
        exact ⟨rfl, hB⟩
end Go.Proofs.YtibnjcoaehnpmaaDoor

import Derived.Test.YtlndpbebenecgaaDoorEr3
import Derived.Test.YtlndpbebenecgaaDoorCt1
namespace Go.Proofs.YtlndpbebenecgaaDoor
open Go.RowKit

abbrev R3 := Int × Int × Int
/-- a run within its bounds -/
def inR (r : R3) : Prop := (2 ≤ r.1 ∧ r.1 ≤ 512) ∧ (1 ≤ r.2.1 ∧ r.2.1 ≤ 512) ∧ r.1 + r.2.1 ≤ 512 ∧ (1 ≤ r.2.2 ∧ r.2.2 ≤ 65535)
/-- r may follow p -/
def fol (p r : R3) : Prop := r.1 > p.1 + p.2.1 ∨ r.1 = p.1 + p.2.1 ∧ r.2.2 ≠ p.2.2
/-- the two, reckoned -/
def inRb (r : R3) : Bool := decide ((2 ≤ r.1 ∧ r.1 ≤ 512) ∧ (1 ≤ r.2.1 ∧ r.2.1 ≤ 512) ∧ r.1 + r.2.1 ≤ 512 ∧ (1 ≤ r.2.2 ∧ r.2.2 ≤ 65535))
def folb (p r : R3) : Bool := decide (r.1 > p.1 + p.2.1 ∨ r.1 = p.1 + p.2.1 ∧ r.2.2 ≠ p.2.2)
theorem inRb_t {r : R3} (h : inR r) : inRb r = true := decide_eq_true h
theorem inRb_f {r : R3} (h : ¬ inR r) : inRb r = false := decide_eq_false h
theorem folb_t {p r : R3} (h : fol p r) : folb p r = true := decide_eq_true h
theorem folb_f {p r : R3} (h : ¬ fol p r) : folb p r = false := decide_eq_false h
theorem inRb_of {r : R3} (h : inRb r = true) : inR r := by simpa [inRb, inR] using h
theorem folb_of {p r : R3} (h : folb p r = true) : fol p r := by simpa [folb, fol] using h

set_option maxHeartbeats 1000000 in
theorem inBounds_any (x y z : Int) (w : World) :
    Calls Tryd.prog 132 #[.agg #[.int .i64 x, .int .i64 y, .int .i64 z]] w fun e w' => e = .returned (.bool (inRb (x, y, z))) ∧ Below w.heap.size w w' := by
  have hB : Below w.heap.size w (w.alloc (.cells #[.int .i64 x, .int .i64 y, .int .i64 z] 83)) := (Below.refl _ _).alloc (Nat.le_refl _) _
  have HD : Hid (inRb (x, y, z) = decide ((2 ≤ x ∧ x ≤ 512) ∧ (1 ≤ y ∧ y ≤ 512) ∧ x + y ≤ 512 ∧ (1 ≤ z ∧ z ≤ 65535))) := rfl
  go_enter Tryd.func132, Tryd.ntmps132
  go_wp2_with fail
  refine (within_any _ _ _ _).mono ?_
  rintro e w1 ⟨rfl, rfl⟩
  by_cases h1 : 2 ≤ x ∧ x ≤ 512
  · rw [inB_true h1]
    go_wp2_with fail
    refine (within_any _ _ _ _).mono ?_
    rintro e w1 ⟨rfl, rfl⟩
    by_cases h2 : 1 ≤ y ∧ y ≤ 512
    · rw [inB_true h2]
      by_cases h3 : x + y ≤ 512
      · go_wp2_with fail
        refine (within_any _ _ _ _).mono ?_
        rintro e w1 ⟨rfl, rfl⟩
        by_cases h4 : 1 ≤ z ∧ z ≤ 65535
        · rw [inB_true h4]
          have HE : Hid (inRb (x, y, z) = true) := by rw [HD.out]; exact decide_eq_true ⟨h1, h2, h3, h4⟩
          go_wp2
          go_ret
          exact ⟨by rw [HE.out]; rfl, hB⟩
        · rw [inB_false h4]
          have HE : Hid (inRb (x, y, z) = false) := by rw [HD.out]; exact decide_eq_false fun h => h4 h.2.2.2
          go_wp2
          go_ret
          exact ⟨by rw [HE.out]; rfl, hB⟩
      · have HE : Hid (inRb (x, y, z) = false) := by rw [HD.out]; exact decide_eq_false fun h => h3 h.2.2.1
        go_wp2
        go_ret
        exact ⟨by rw [HE.out]; rfl, hB⟩
    · rw [inB_false h2]
      have HE : Hid (inRb (x, y, z) = false) := by rw [HD.out]; exact decide_eq_false fun h => h2 h.2.1
      go_wp2
      go_ret
      exact ⟨by rw [HE.out]; rfl, hB⟩
  · rw [inB_false h1]
    have HE : Hid (inRb (x, y, z) = false) := by rw [HD.out]; exact decide_eq_false fun h => h1 h.1
    go_wp2
    go_ret
    exact ⟨by rw [HE.out]; rfl, hB⟩

set_option maxHeartbeats 1000000 in
theorem mayFollow_any (x y z p q r : Int) (hp : 2 ≤ p ∧ p ≤ 512) (hq : 1 ≤ q ∧ q ≤ 512) (w : World) :
    Calls Tryd.prog 137 #[.agg #[.int .i64 x, .int .i64 y, .int .i64 z], .agg #[.int .i64 p, .int .i64 q, .int .i64 r]] w fun e w' => e = .returned (.bool (folb (p, q, r) (x, y, z))) ∧ Below w.heap.size w w' := by
  have hB : Below w.heap.size w ((w.alloc (.cells #[.int .i64 x, .int .i64 y, .int .i64 z] 83)).alloc (.cells #[.int .i64 p, .int .i64 q, .int .i64 r] 83)) := ((Below.refl _ _).alloc (Nat.le_refl _) _).alloc (by simp) _
  have HD : Hid (folb (p, q, r) (x, y, z) = decide (x > p + q ∨ x = p + q ∧ z ≠ r)) := rfl
  by_cases h1 : p + q < x
  · have HE : Hid (folb (p, q, r) (x, y, z) = true) := by rw [HD.out]; exact decide_eq_true (.inl h1)
    go_enter Tryd.func137, Tryd.ntmps137
    go_wp2
    go_ret
    exact ⟨by rw [HE.out]; rfl, hB⟩
  · by_cases h2 : x = p + q
    · by_cases h3 : z = r
      · have HE : Hid (folb (p, q, r) (x, y, z) = false) := by rw [HD.out]; exact decide_eq_false (by omega)
        have hb : (x == p + q) = true := by simpa using h2
        have hc : (z != r) = false := by simpa using h3
        clear h2 h3
        go_enter Tryd.func137, Tryd.ntmps137
        go_wp2
        go_ret
        exact ⟨by rw [HE.out]; rfl, hB⟩
      · have HE : Hid (folb (p, q, r) (x, y, z) = true) := by rw [HD.out]; exact decide_eq_true (.inr ⟨h2, h3⟩)
        have hb : (x == p + q) = true := by simpa using h2
        have hc : (z != r) = true := by simpa using h3
        clear h2 h3
        go_enter Tryd.func137, Tryd.ntmps137
        go_wp2
        go_ret
        exact ⟨by rw [HE.out]; rfl, hB⟩
    · have HE : Hid (folb (p, q, r) (x, y, z) = false) := by rw [HD.out]; exact decide_eq_false (by omega)
      have hb : (x == p + q) = false := by simpa using h2
      clear h2
      go_enter Tryd.func137, Tryd.ntmps137
      go_wp2
      go_ret
      exact ⟨by rw [HE.out]; rfl, hB⟩
end Go.Proofs.YtlndpbebenecgaaDoor

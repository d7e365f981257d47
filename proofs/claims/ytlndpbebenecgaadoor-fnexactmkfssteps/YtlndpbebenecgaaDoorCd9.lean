import Derived.Test.YtlndpbebenecgaaDoorCd8
namespace Go.Proofs.YtlndpbebenecgaaDoor
open Go.RowKit

theorem putL_app (pre : List Int) (v : Int) (m n : Nat) (h : n ≤ m) : putL (pre ++ List.replicate m 0) pre.length v n = pre ++ leN v n ++ List.replicate (m - n) 0 := by
  induction n with
  | zero => simp [putL, leN]
  | succ n ih =>
    rw [putL, ih (by omega), leN_snoc, List.set_append_right _ _ (by simp [leN_length]), show m - n = (m - (n + 1)) + 1 by omega, List.replicate_succ]
    have e : pre.length + n - (pre ++ leN v n).length = 0 := by simp [leN_length]
    rw [e, List.set_cons_zero]
    simp
theorem putL_at (pre : List Int) (off : Nat) (ho : off = pre.length) (v : Int) (m n : Nat) (h : n ≤ m) : putL (pre ++ List.replicate m 0) off v n = pre ++ leN v n ++ List.replicate (m - n) 0 := by
  subst ho; exact putL_app pre v m n h

theorem layP_eq (nx : Int) (rs : List R3) (k : Nat) (h : k ≤ 20) : layP nx rs k = tabP nx rs k ++ List.replicate (124 - 6 * k) 0 := by
  induction k with
  | zero =>
    have e : headL 3 rs.length = [3, (rs.length : Int)] ++ List.replicate 126 0 := rfl
    rw [layP, e, putL_at _ 2 rfl nx 126 2 (by omega)]
    rfl
  | succ k ih =>
    have hl := tabP_length nx rs k
    rw [layP, ih (by omega), putL_at _ (4 + 6 * k) hl.symm _ _ 2 (by omega), putL_at _ (4 + 6 * k + 2) (by simp [hl, leN_length]) _ _ 2 (by omega), putL_at _ (4 + 6 * k + 4) (by simp [hl, leN_length]) _ _ 2 (by omega), tabP]
    rw [show 124 - 6 * k - 2 - 2 - 2 = 124 - 6 * (k + 1) by omega]

theorem layP_fill (nx : Int) (rs : List R3) (k : Nat) (h : k ≤ 20) : layP nx rs k = fillL (tabP nx rs k) ++ List.replicate 4 0 := by
  rw [layP_eq nx rs k h, fillL, tabP_length, List.append_assoc, List.replicate_append_replicate]
  rw [show 124 - (4 + 6 * k) + 4 = 124 - 6 * k by omega]

theorem layP_take (nx : Int) (rs : List R3) (k : Nat) (h : k ≤ 20) : (layP nx rs k).take 124 = fillL (tabP nx rs k) := by
  have hl : (fillL (tabP nx rs k)).length = 124 := fillL_length _ (by rw [tabP_length]; omega)
  rw [layP_fill nx rs k h, List.take_append_of_le_length (by omega), List.take_of_length_le (by omega)]

/-- what the program lays and seals is the block -/
theorem layP_seal (nx : Int) (rs : List R3) (h : rs.length ≤ 20) : putL (layP nx rs rs.length) 124 (crcOf ((layP nx rs rs.length).take 124)) 4 = tabL nx rs := by
  have hl : (fillL (tabP nx rs rs.length)).length = 124 := fillL_length _ (by rw [tabP_length]; omega)
  rw [layP_take nx rs _ h, layP_fill nx rs _ h, putL_at _ 124 hl.symm _ 4 4 (by omega)]
  simp [tabL, sealL]
theorem layP_length (nx : Int) (rs : List R3) (k : Nat) (h : k ≤ 20) : (layP nx rs k).length = 128 := by
  rw [layP_eq nx rs k h]; simp [tabP_length]; omega
theorem layP_byt (nx : Int) (rs : List R3) (hl : rs.length ≤ 20) (k : Nat) (h : k ≤ 20) : Byt (layP nx rs k) := by
  rw [layP_eq nx rs k h]; exact (tabP_byt nx rs hl k).append (Byt.zeros _)
end Go.Proofs.YtlndpbebenecgaaDoor

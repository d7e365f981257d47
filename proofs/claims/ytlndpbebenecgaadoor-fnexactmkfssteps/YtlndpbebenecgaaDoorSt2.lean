import Derived.Test.YtlndpbebenecgaaDoorSt1
namespace Go.Proofs.YtlndpbebenecgaaDoor
open Go.RowKit

/-- the bytes of ss -/
def dataS : List (Int × Int × List Int) → Int
  | [] => 0
  | s :: r => s.2.2.length + dataS r
def sumS (ss : List (Int × Int × List Int)) : Int := ss.length + dataS ss

theorem dataS_nonneg (ss : List (Int × Int × List Int)) : 0 ≤ dataS ss := by
  induction ss with
  | nil => simp [dataS]
  | cons s r ih => simp only [dataS]; omega

theorem dataS_take_succ (ss : List (Int × Int × List Int)) (i : Nat) (h : i < ss.length) : dataS (ss.take (i + 1)) = dataS (ss.take i) + (ss.getD i (0, 0, [])).2.2.length := by
  induction ss generalizing i with
  | nil => simp at h
  | cons s r ih =>
    match i with
    | 0 => simp [dataS]
    | i + 1 =>
      have := ih i (by simpa using h)
      simp only [List.take_succ_cons, dataS, List.getD_cons_succ] at this ⊢
      omega

theorem dataS_take_le (ss : List (Int × Int × List Int)) (i : Nat) : dataS (ss.take i) ≤ dataS ss := by
  induction ss generalizing i with
  | nil => simp
  | cons s r ih =>
    match i with
    | 0 => have := dataS_nonneg (s :: r); simpa [dataS] using this
    | i + 1 =>
      have := ih i
      simp only [List.take_succ_cons, dataS] at this ⊢
      omega

theorem dataS_el (ss : List (Int × Int × List Int)) (i : Nat) : ((ss.getD i (0, 0, [])).2.2.length : Int) ≤ dataS ss := by
  by_cases h : i < ss.length
  · have h1 := dataS_take_succ ss i h
    have h2 := dataS_take_le ss (i + 1)
    have h3 := dataS_nonneg (ss.take i)
    omega
  · have := dataS_nonneg ss
    simp [h]; exact this

end Go.Proofs.YtlndpbebenecgaaDoor

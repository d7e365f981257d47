import Derived.Test.YthcflbidjlediaaNB
namespace Go.Proofs.Ythcflbidjlediaa
open Go.RowKit

/-- the reserve of B blocks -/
def resv (B : Int) : Int := if 8 ≤ B ∧ B ≤ 512 then (B + 17) / 20 else 0

set_option maxHeartbeats 400000 in
theorem implReserve_any (B : Int) (w : World) :
    Calls Try.prog 9 #[.int .i64 B] w fun e w' => e = .returned (.int .i64 (resv B)) ∧ w = w' := by
  by_cases hB : 8 ≤ B ∧ B ≤ 512
  · have hb := inB_true hB
    have HR : Hid (resv B = (B + 17) / 20) := if_pos hB
    have hd : (B - 2 + 20 - 1).tdiv 20 = (B + 17) / 20 := by rw [Int.tdiv_eq_ediv_of_nonneg (by omega)]; congr 1; omega
    go_enter Try.func9, Try.ntmps9
    go_wp2_with fail
    refine (within_any _ _ _ _).mono ?_
    rintro e w' ⟨rfl, rfl⟩
    go_wp2
    go_ret
    exact ⟨by rw [HR.out]; go_num, rfl⟩
  · have hb := inB_false hB
    have HR : Hid (resv B = 0) := if_neg hB
    go_enter Try.func9, Try.ntmps9
    go_wp2_with fail
    refine (within_any _ _ _ _).mono ?_
    rintro e w' ⟨rfl, rfl⟩
    go_wp2
    go_ret
    exact ⟨by rw [HR.out]; rfl, rfl⟩

set_option maxHeartbeats 400000 in
theorem specReserve_any (B : Int) (w : World) :
    Calls Try.prog 8 #[.int .i64 B] w fun e w' => e = .returned (.int .i64 (resv B)) ∧ w = w' := by
  by_cases hB : 8 ≤ B ∧ B ≤ 512
  · have hb := inB_true hB
    have HR : Hid (resv B = (B + 17) / 20) := if_pos hB
    go_enter Try.func8, Try.ntmps8
    go_wp2_with fail
    refine (l1BlocksOK_any _ _).mono ?_
    rintro e w' ⟨rfl, rfl⟩
    go_wp2
    go_loop [3] (fun i => ∃ k : Nat, ((k : Int) - 1) * 20 < B - 2 ∧ i = .int .i64 k) (fun i => 600 - (intOf i).toNat)
    case atStart => exact ⟨0, by omega, rfl⟩
    case round =>
      obtain ⟨k, hk, rfl⟩ := hrel
      by_cases hlt : (k : Int) * 20 < B - 2
      · go_wp2
        go_round
        case rel => exact ⟨k + 1, by omega, by go_num⟩
        case measure => simp [intOf]; omega
      · go_wp2
        go_ret
        exact ⟨by rw [HR.out, show (B + 17) / 20 = (k : Int) by omega]; rfl, rfl⟩
  · have hb := inB_false hB
    have HR : Hid (resv B = 0) := if_neg hB
    go_enter Try.func8, Try.ntmps8
    go_wp2_with fail
    refine (l1BlocksOK_any _ _).mono ?_
    rintro e w' ⟨rfl, rfl⟩
    go_wp2
    go_ret
    exact ⟨by rw [HR.out]; rfl, rfl⟩

set_option maxHeartbeats 400000 in
theorem reserve_walk (B : Int) (w : World) :
    Calls Try.prog 3 #[.int .i64 B] w fun e w' => e = .returned (.bool true) ∧ Below w.heap.size w w' := by
  have hne : (resv B != resv B) = false := by simp
  go_enter Try.func3, Try.ntmps3
  go_wp2_with fail
  refine (specReserve_any _ _).mono ?_
  rintro e w' ⟨rfl, rfl⟩
  go_wp2_with fail
  refine (implReserve_any _ _).mono ?_
  rintro e w' ⟨rfl, rfl⟩
  go_wp2
  go_ret
  exact ⟨rfl, Below.refl _ _⟩
end Go.Proofs.Ythcflbidjlediaa

import Derived.Test.YtamblkibmlfklabDoorNB
namespace Go.Proofs.YtamblkibmlfklabDoor
open Go.RowKit

/-- the reserve of B blocks -/
def resv (B : Int) : Int := if 8 ≤ B ∧ B ≤ 512 then (B + 17) / 20 else 0

set_option maxHeartbeats 400000 in
theorem implReserve_any (B : Int) (w : World) :
    Calls Tryd.prog 11 #[.int .i64 B] w fun e w' => e = .returned (.int .i64 (resv B)) ∧ w = w' := by
  by_cases hB : 8 ≤ B ∧ B ≤ 512
  · have hb := inB_true hB
    have HR : Hid (resv B = (B + 17) / 20) := if_pos hB
    have hd : (B - 2 + 20 - 1).tdiv 20 = (B + 17) / 20 := by rw [Int.tdiv_eq_ediv_of_nonneg (by omega)]; congr 1; omega
    go_enter Tryd.func11, Tryd.ntmps11
    go_wp2_with fail
    refine (within_any _ _ _ _).mono ?_
    rintro e w' ⟨rfl, rfl⟩
    go_wp2
    go_ret
    exact ⟨by rw [HR.out]; go_num, rfl⟩
  · have hb := inB_false hB
    have HR : Hid (resv B = 0) := if_neg hB
    go_enter Tryd.func11, Tryd.ntmps11
    go_wp2_with fail
    refine (within_any _ _ _ _).mono ?_
    rintro e w' ⟨rfl, rfl⟩
    go_wp2
    go_ret
    exact ⟨by rw [HR.out]; rfl, rfl⟩

end Go.Proofs.YtamblkibmlfklabDoor

import Derived.Test.YtamblkibmlfklabDoorPlW2
namespace Go.Proofs.YtamblkibmlfklabDoor
open Go.RowKit

set_option maxRecDepth 100000 in
set_option maxHeartbeats 400000 in
theorem fnPlan_all (a : Option Addr) (c : Nat) (zs : List Int) (w : World) {adr : Nat → Addr} (hL : Laid w adr) (hv : Bts w (.slice a zs.length c) zs) (hm : zs.length ≤ 9223372036854775807) :
    Calls Tryd.prog 3 #[.slice a zs.length c] w fun e w' => e = .returned (.bool true) ∧ Below w.heap.size w w' := by
  by_cases hl : zs.length ≤ 1048576
  case neg =>
    go_enter Tryd.func3, Tryd.ntmps3
    go_wp2
    go_ret
    exact ⟨rfl, Below.refl _ _⟩
  exact fnPlan_walk a c zs w hL hv hl
end Go.Proofs.YtamblkibmlfklabDoor

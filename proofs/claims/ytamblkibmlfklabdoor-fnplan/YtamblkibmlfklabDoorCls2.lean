import Derived.Test.YtamblkibmlfklabDoorCls
namespace Go.Proofs.YtamblkibmlfklabDoor
open Go.RowKit

set_option maxHeartbeats 1000000 in
theorem implClassify_no (a a' : Option Addr) (c c' : Nat) (zs ys : List Int) (w : World) (hv : Nts w (.slice a zs.length c) zs) (hv' : Nts w (.slice a' ys.length c') ys) (hz : zs.length ≤ 1048576) (hy : ys.length ≤ 1048576) (hok : chk [zs, ys] ≠ 0) :
    Calls Tryd.prog 10 #[.slice a zs.length c, .slice a' ys.length c'] w fun e w' => e = .returned (.tuple #[.slice none 0 0, .int .i64 (chk [zs, ys])]) ∧ Below w.heap.size w w' := by
  have hne : (chk [zs, ys] != 0) = true := by simpa using hok
  go_enter Tryd.func10, Tryd.ntmps10
  go_wp2_with fail
  refine (checkCounts_any _ [zs, ys] _ (LRd.two hv hv' _ _ rfl) (by simp) (by simp) (two_small hz hy)).mono ?_
  rintro e w1 ⟨rfl, rfl⟩
  clear hok hv hv'
  go_wp2
  refine bodyPost_ret (v := .tuple #[.slice none 0 0, .int .i64 (chk [zs, ys])]) (by simp [results, Tryd.results10, go_sem]) rfl ⟨rfl, belowA _ _⟩

end Go.Proofs.YtamblkibmlfklabDoor

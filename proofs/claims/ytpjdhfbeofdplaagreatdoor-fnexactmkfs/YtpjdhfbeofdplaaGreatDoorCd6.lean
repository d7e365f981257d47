import Derived.Test.YtpjdhfbeofdplaaGreatDoorCd5
import Derived.Test.YtpjdhfbeofdplaaGreatDoorRaw
import Derived.Test.YtpjdhfbeofdplaaGreatDoorCt1
namespace Go.Proofs.YtpjdhfbeofdplaaGreatDoor
open Go.RowKit

/-- a block's head -/
def headL (kd nm : Int) : List Int := kd :: nm :: List.replicate 126 0
theorem headL_length (kd nm : Int) : (headL kd nm).length = 128 := by simp [headL]
theorem zeroRaw : Tryz.zeroCells121 = zero128 := by kernel_rfl
theorem headCells (kd nm : Int) : (Tryz.zeroCells121.setIfInBounds 0 (Value.int .u8 kd)).setIfInBounds 1 (Value.int .u8 nm) = u8s (headL kd nm) := by
  rw [zeroRaw]
  apply Array.toList_inj.1
  simp [zero128, u8s, headL, List.replicate_succ]

set_option maxRecDepth 100000 in
set_option maxHeartbeats 1000000 in
theorem begin_any (kd nm : Int) (hk : 0 ≤ kd ∧ kd < 256) (hm : 0 ≤ nm ∧ nm < 256) (w : World) :
    Calls Tryz.prog 94 #[.agg #[.int .i64 kd, .int .i64 nm]] w fun e w' => e = .returned (.agg (u8s (headL kd nm))) ∧ Below w.heap.size w w' := by
  have hl := headL_length kd nm
  have hb1 := belowA w (.cells #[.int .i64 kd, .int .i64 nm] 113)
  have hb2 := hb1.trans ((belowA (w.alloc (.cells #[.int .i64 kd, .int .i64 nm] 113)) (.cells Tryz.zeroCells121 121)).mono hb1.size)
  have hb3 := hb2.trans ((belowA ((w.alloc (.cells #[.int .i64 kd, .int .i64 nm] 113)).alloc (.cells Tryz.zeroCells121 121)) (.cells ((Tryz.zeroCells121.setIfInBounds 0 (Value.int .u8 kd)).setIfInBounds 1 (Value.int .u8 nm)) 121)).mono hb2.size)
  have hR : Rng8 (((w.alloc (.cells #[.int .i64 kd, .int .i64 nm] 113)).alloc (.cells Tryz.zeroCells121 121)).alloc (.cells ((Tryz.zeroCells121.setIfInBounds 0 (Value.int .u8 kd)).setIfInBounds 1 (Value.int .u8 nm)) 121)) (w.heap.size + 1 + 1) 0 (headL kd nm) := by
    rw [headCells]
    exact rng_new _ _ hl _ _ (by simp)
  have hT : (((w.alloc (.cells #[.int .i64 kd, .int .i64 nm] 113)).alloc (.cells Tryz.zeroCells121 121)).alloc (.cells ((Tryz.zeroCells121.setIfInBounds 0 (Value.int .u8 kd)).setIfInBounds 1 (Value.int .u8 nm)) 121)).there (w.heap.size + 1) 0 128 := by
    refine there_block (w := (w.alloc (.cells #[.int .i64 kd, .int .i64 nm] 113)).alloc (.cells Tryz.zeroCells121 121)) ?_ ((belowA _ _).block _ (by simp))
    rw [zeroRaw]
    exact there_new _ _ (by simp)
  have HBL : Hid (Below w.heap.size w ((((w.alloc (.cells #[.int .i64 kd, .int .i64 nm] 113)).alloc (.cells Tryz.zeroCells121 121)).alloc (.cells ((Tryz.zeroCells121.setIfInBounds 0 (Value.int .u8 kd)).setIfInBounds 1 (Value.int .u8 nm)) 121)).setCells (w.heap.size + 1) 0 ((headL kd nm).map (Value.int .u8)))) := Below.setCells hb3 (by omega) _ _
  have HRS : Hid _ := Rng8.stored hT hl
  clear hb1 hb2 hb3
  go_enter Tryz.func94, Tryz.ntmps94
  go_wp2_with (first | ((with_reducible refine wpList_load128 hR ?_ ?_); exact ⟨rfl, _, rfl, rfl⟩) | ((with_reducible refine wpList_store128 hT hl ?_ ?_); exact ⟨rfl, _, _, rfl, rfl, rfl⟩))
  exact bodyPost_ret (result_rng Tryz.results94 rfl HRS.out) rfl ⟨rfl, HBL.out⟩
end Go.Proofs.YtpjdhfbeofdplaaGreatDoor

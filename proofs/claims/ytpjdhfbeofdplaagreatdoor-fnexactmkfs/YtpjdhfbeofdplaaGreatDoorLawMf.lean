import Derived.Test.YtpjdhfbeofdplaaGreatDoorMf3
namespace Go.Proofs.YtpjdhfbeofdplaaGreatDoor
open Go.RowKit
set_option linter.unusedVariables false

set_option maxHeartbeats 8000000 in
theorem mkfs_walk (a0 : Option Addr) (c0 : Nat) (z0 : List Int) (w : World) (hv0 : Bts w (.slice a0 z0.length c0) z0) (hl0 : z0.length ≤ 1048576) :
    Calls Tryz.prog 3 #[.slice a0 z0.length c0] w fun e w' => e = .returned (.bool true) ∧ Below w.heap.size w w' := by
  have hr0 := mfR_length z0 hl0
  have hne0 : (mfC z0 != mfC z0) = false := by simp
  go_enter Tryz.func3, Tryz.ntmps3
  go_wp2_with fail
  refine (toByteS_own _ z0 _ hv0 (by omega)).mono ?_
  rintro e w1 ⟨rfl, s0_1, hb1⟩
  have hbel1 := hb1
  have hs1 := hb1.size
  clear hb1
  go_wp2_with fail
  refine (specMk_any _ _ z0 _ s0_1.bts hl0).mono ?_
  rintro e w2 ⟨Wa0, Wc0, rfl, W0_2, hb2⟩
  have s0_2 := s0_1.below hb2
  have hbel2 := hbel1.trans (hb2.mono hbel1.size)
  have hs2 := hb2.size
  clear s0_1 hb2 hbel1
  clear s0_2
  go_wp2_with fail
  refine (toByteS_own _ z0 _ (hv0.below hbel2) (by omega)).mono ?_
  rintro e w3 ⟨rfl, X0_3, hb3⟩
  have W0_3 := W0_2.below hb3
  have hbel3 := hbel2.trans (hb3.mono hbel2.size)
  have hs3 := hb3.size
  clear W0_2 hb3 hbel2
  go_wp2_with fail
  refine (implMk_any _ _ z0 _ X0_3.bts hl0).mono ?_
  rintro e w4 ⟨Ga0, Gc0, rfl, G0_4, hb4⟩
  have W0_4 := W0_3.below hb4
  have X0_4 := X0_3.below hb4
  have hbel4 := hbel3.trans (hb4.mono hbel3.size)
  have hs4 := hb4.size
  clear W0_3 X0_3 hb4 hbel3
  go_wp2_with fail
  refine (eqByteS_own _ _ (mfR z0) _ G0_4.bts W0_4.bts (by omega)).mono ?_
  rintro e w5 ⟨rfl, hb5⟩
  have W0_5 := W0_4.below hb5
  have X0_5 := X0_4.below hb5
  have G0_5 := G0_4.below hb5
  have hbel5 := hbel4.trans (hb5.mono hbel4.size)
  have hs5 := hb5.size
  clear W0_4 X0_4 G0_4 hb5 hbel4
  go_wp2_with fail
  refine (toByteS_own _ z0 _ (hv0.below hbel5) (by omega)).mono ?_
  rintro e w6 ⟨rfl, T_6, hb6⟩
  have W0_6 := W0_5.below hb6
  have X0_6 := X0_5.below hb6
  have G0_6 := G0_5.below hb6
  have hbel6 := hbel5.trans (hb6.mono hbel5.size)
  have hs6 := hb6.size
  clear W0_5 X0_5 G0_5 hb6 hbel5
  go_wp2_with fail
  refine (eqByteS_own _ _ z0 _ X0_6.bts T_6.bts (by omega)).mono ?_
  rintro e w7 ⟨rfl, hb7⟩
  have W0_7 := W0_6.below hb7
  have X0_7 := X0_6.below hb7
  have G0_7 := G0_6.below hb7
  have T_7 := T_6.below hb7
  have hbel7 := hbel6.trans (hb7.mono hbel6.size)
  have hs7 := hb7.size
  clear W0_6 X0_6 G0_6 T_6 hb7 hbel6
  clear T_7
  go_wp2_with fail
  refine (markByteS_any _ _ _ z0 1 _ X0_7 (by omega) (by omega)).mono ?_
  rintro e w8 ⟨rfl, -, hu8⟩
  have W0_8 := W0_7.upd hu8 (by omega)
  have G0_8 := G0_7.upd hu8 (by omega)
  have hbel8 := hbel7.trans (hu8.below (by omega) (by omega))
  have hs8 := hu8.size
  clear W0_7 G0_7 hu8 hbel7
  clear X0_7
  go_wp2_with fail
  refine (eqByteS_own _ _ (mfR z0) _ G0_8.bts W0_8.bts (by omega)).mono ?_
  rintro e w9 ⟨rfl, hb9⟩
  have W0_9 := W0_8.below hb9
  have G0_9 := G0_8.below hb9
  have hbel9 := hbel8.trans (hb9.mono hbel8.size)
  have hs9 := hb9.size
  clear W0_8 G0_8 hb9 hbel8
  go_wp2_with fail
  refine (markByteS_any _ _ _ (mfR z0) 1 _ G0_9 (by omega) (by omega)).mono ?_
  rintro e w10 ⟨rfl, M0_10, hu10⟩
  have W0_10 := W0_9.upd hu10 (by omega)
  have hbel10 := hbel9.trans (hu10.below (by omega) (by omega))
  have hs10 := hu10.size
  clear W0_9 hu10 hbel9
  clear G0_9
  go_wp2_with fail
  refine (heldByteS_any _ 1 (mfR z0).length _ M0_10.bts (by omega) (by omega)).mono ?_
  rintro e w1010 ⟨rfl, rfl⟩
  clear M0_10
  go_wp2_with fail
  refine (toByteS_own _ z0 _ (hv0.below hbel10) (by omega)).mono ?_
  rintro e w11 ⟨rfl, Y0_11, hb11⟩
  have W0_11 := W0_10.below hb11
  have hbel11 := hbel10.trans (hb11.mono hbel10.size)
  have hs11 := hb11.size
  clear W0_10 hb11 hbel10
  go_wp2_with fail
  refine (implMk_any _ _ z0 _ Y0_11.bts hl0).mono ?_
  rintro e w12 ⟨Ha0, Hc0, rfl, H0_12, hb12⟩
  have W0_12 := W0_11.below hb12
  have Y0_12 := Y0_11.below hb12
  have hbel12 := hbel11.trans (hb12.mono hbel11.size)
  have hs12 := hb12.size
  clear W0_11 Y0_11 hb12 hbel11
  go_wp2_with fail
  refine (eqByteS_own _ _ (mfR z0) _ H0_12.bts W0_12.bts (by omega)).mono ?_
  rintro e w13 ⟨rfl, hb13⟩
  have W0_13 := W0_12.below hb13
  have Y0_13 := Y0_12.below hb13
  have H0_13 := H0_12.below hb13
  have hbel13 := hbel12.trans (hb13.mono hbel12.size)
  have hs13 := hb13.size
  clear W0_12 Y0_12 H0_12 hb13 hbel12
  clear W0_13 Y0_13 H0_13
  go_wp2
  go_ret
  exact ⟨rfl, hbel13⟩

set_option maxHeartbeats 400000 in
theorem mkfs_all (a0 : Option Addr) (c0 : Nat) (z0 : List Int) (w : World) (hv0 : Bts w (.slice a0 z0.length c0) z0) (hm0 : z0.length ≤ 9223372036854775807) :
    Calls Tryz.prog 3 #[.slice a0 z0.length c0] w fun e w' => e = .returned (.bool true) ∧ Below w.heap.size w w' := by
  by_cases hl0 : z0.length ≤ 1048576
  case neg =>
    go_enter Tryz.func3, Tryz.ntmps3
    go_wp2
    go_ret
    exact ⟨rfl, Below.refl _ _⟩
  exact mkfs_walk a0 c0 z0 w hv0 hl0
end Go.Proofs.YtpjdhfbeofdplaaGreatDoor

import Derived.Test.YthcflbidjlediaaCls2
namespace Go.Proofs.Ythcflbidjlediaa
open Go.RowKit

/-- Classify's list -/
def clA (zs ys : List Int) : List Int := if chk [zs, ys] = 0 then clsL zs ys zs.length else []

theorem Own64.form {lo hi : Nat} {w : World} {v : Value} {zs : List Int} (h : Own64 lo hi w v zs) : ∃ a cap, v = .slice a zs.length cap := by
  obtain ⟨a, cap, hv, _⟩ := h.shape
  exact ⟨a, cap, hv⟩

theorem clA_length (zs ys : List Int) : (clA zs ys).length ≤ 512 := by
  unfold clA
  split
  · rename_i h
    have := (chk_ok (chk_two_ok h).2.1).1
    rw [clsL_length]; omega
  · simp

theorem implClassify_any (a : Option Addr) (c : Nat) (zs : List Int) (a' : Option Addr) (c' : Nat) (ys : List Int) (w : World) (hv : Nts w (.slice a zs.length c) zs) (hv' : Nts w (.slice a' ys.length c') ys) (hz : zs.length ≤ 1048576) (hy : ys.length ≤ 1048576) :
    Calls Try.prog 15 #[.slice a zs.length c, .slice a' ys.length c'] w fun e w' => ∃ ua uc, e = .returned (.tuple #[.slice ua (clA zs ys).length uc, .int .i64 (chk [zs, ys])]) ∧ Own64 w.heap.size w'.heap.size w' (.slice ua (clA zs ys).length uc) (clA zs ys) ∧ Below w.heap.size w w' := by
  by_cases h : chk [zs, ys] = 0
  · have e1 : clA zs ys = clsL zs ys zs.length := if_pos h
    refine (implClassify_yes a a' c c' zs ys w hv hv' h).mono ?_
    rintro e w' ⟨u, rfl, h1, h2⟩
    obtain ⟨ua, uc, rfl⟩ := h1.form
    rw [e1, h]
    exact ⟨ua, uc, rfl, h1, h2⟩
  · have e1 : clA zs ys = [] := if_neg h
    refine (implClassify_no a a' c c' zs ys w hv hv' hz hy h).mono ?_
    rintro e w' ⟨rfl, h2⟩
    rw [e1]
    exact ⟨none, 0, rfl, Own64.empty _ _ _ _ _, h2⟩

theorem specClassify_any (a : Option Addr) (c : Nat) (zs : List Int) (a' : Option Addr) (c' : Nat) (ys : List Int) (w : World) (hv : Nts w (.slice a zs.length c) zs) (hv' : Nts w (.slice a' ys.length c') ys) (hz : zs.length ≤ 1048576) (hy : ys.length ≤ 1048576) :
    Calls Try.prog 14 #[.slice a zs.length c, .slice a' ys.length c'] w fun e w' => ∃ ua uc, e = .returned (.tuple #[.slice ua (clA zs ys).length uc, .int .i64 (chk [zs, ys])]) ∧ Own64 w.heap.size w'.heap.size w' (.slice ua (clA zs ys).length uc) (clA zs ys) ∧ Below w.heap.size w w' := by
  by_cases h : chk [zs, ys] = 0
  · have e1 : clA zs ys = clsL zs ys zs.length := if_pos h
    refine (specClassify_yes a a' c c' zs ys w hv hv' h).mono ?_
    rintro e w' ⟨u, rfl, h1, h2⟩
    obtain ⟨ua, uc, rfl⟩ := h1.form
    rw [e1, h]
    exact ⟨ua, uc, rfl, h1, h2⟩
  · have e1 : clA zs ys = [] := if_neg h
    refine (specClassify_no a a' c c' zs ys w hv hv' hz hy h).mono ?_
    rintro e w' ⟨rfl, h2⟩
    rw [e1]
    exact ⟨none, 0, rfl, Own64.empty _ _ _ _ _, h2⟩

set_option maxHeartbeats 8000000 in
theorem classify_walk (a0 : Option Addr) (c0 : Nat) (z0 : List Int) (a1 : Option Addr) (c1 : Nat) (z1 : List Int) (w : World) (hv0 : Nts w (.slice a0 z0.length c0) z0) (hv1 : Nts w (.slice a1 z1.length c1) z1) (hl0 : z0.length ≤ 1048576) (hl1 : z1.length ≤ 1048576) :
    Calls Try.prog 5 #[.slice a0 z0.length c0, .slice a1 z1.length c1] w fun e w' => e = .returned (.bool true) ∧ Below w.heap.size w w' := by
  have hr0 := clA_length z0 z1
  have hne : (chk [z0, z1] != chk [z0, z1]) = false := by simp
  go_enter Try.func5, Try.ntmps5
  go_wp2_with fail
  refine (toInt64S_own _ z0 _ hv0 (by omega)).mono ?_
  rintro e w1 ⟨rfl, s0_1, hb1⟩
  have hbel1 := hb1
  have hs1 := hb1.size
  clear hb1
  go_wp2_with fail
  refine (toInt64S_own _ z1 _ (hv1.below hbel1) (by omega)).mono ?_
  rintro e w2 ⟨rfl, s1_2, hb2⟩
  have s0_2 := s0_1.below hb2
  have hbel2 := hbel1.trans (hb2.mono hbel1.size)
  have hs2 := hb2.size
  clear s0_1 hb2 hbel1
  go_wp2_with fail
  refine (specClassify_any _ _ z0 _ _ z1 _ s0_2.nts s1_2.nts hl0 hl1).mono ?_
  rintro e w3 ⟨Wa0, Wc0, rfl, W0_3, hb3⟩
  have s0_3 := s0_2.below hb3
  have s1_3 := s1_2.below hb3
  have hbel3 := hbel2.trans (hb3.mono hbel2.size)
  have hs3 := hb3.size
  clear s0_2 s1_2 hb3 hbel2
  clear s0_3
  clear s1_3
  go_wp2_with fail
  refine (toInt64S_own _ z0 _ (hv0.below hbel3) (by omega)).mono ?_
  rintro e w4 ⟨rfl, X0_4, hb4⟩
  have W0_4 := W0_3.below hb4
  have hbel4 := hbel3.trans (hb4.mono hbel3.size)
  have hs4 := hb4.size
  clear W0_3 hb4 hbel3
  go_wp2_with fail
  refine (toInt64S_own _ z1 _ (hv1.below hbel4) (by omega)).mono ?_
  rintro e w5 ⟨rfl, X1_5, hb5⟩
  have W0_5 := W0_4.below hb5
  have X0_5 := X0_4.below hb5
  have hbel5 := hbel4.trans (hb5.mono hbel4.size)
  have hs5 := hb5.size
  clear W0_4 X0_4 hb5 hbel4
  go_wp2_with fail
  refine (implClassify_any _ _ z0 _ _ z1 _ X0_5.nts X1_5.nts hl0 hl1).mono ?_
  rintro e w6 ⟨Ga0, Gc0, rfl, G0_6, hb6⟩
  have W0_6 := W0_5.below hb6
  have X0_6 := X0_5.below hb6
  have X1_6 := X1_5.below hb6
  have hbel6 := hbel5.trans (hb6.mono hbel5.size)
  have hs6 := hb6.size
  clear W0_5 X0_5 X1_5 hb6 hbel5
  go_wp2_with fail
  refine (eqInt64S_own _ _ (clA z0 z1) _ G0_6.nts W0_6.nts (by omega)).mono ?_
  rintro e w7 ⟨rfl, hb7⟩
  have W0_7 := W0_6.below hb7
  have X0_7 := X0_6.below hb7
  have X1_7 := X1_6.below hb7
  have G0_7 := G0_6.below hb7
  have hbel7 := hbel6.trans (hb7.mono hbel6.size)
  have hs7 := hb7.size
  clear W0_6 X0_6 X1_6 G0_6 hb7 hbel6
  go_wp2_with fail
  refine (toInt64S_own _ z0 _ (hv0.below hbel7) (by omega)).mono ?_
  rintro e w8 ⟨rfl, T_8, hb8⟩
  have W0_8 := W0_7.below hb8
  have X0_8 := X0_7.below hb8
  have X1_8 := X1_7.below hb8
  have G0_8 := G0_7.below hb8
  have hbel8 := hbel7.trans (hb8.mono hbel7.size)
  have hs8 := hb8.size
  clear W0_7 X0_7 X1_7 G0_7 hb8 hbel7
  go_wp2_with fail
  refine (eqInt64S_own _ _ z0 _ X0_8.nts T_8.nts (by omega)).mono ?_
  rintro e w9 ⟨rfl, hb9⟩
  have W0_9 := W0_8.below hb9
  have X0_9 := X0_8.below hb9
  have X1_9 := X1_8.below hb9
  have G0_9 := G0_8.below hb9
  have T_9 := T_8.below hb9
  have hbel9 := hbel8.trans (hb9.mono hbel8.size)
  have hs9 := hb9.size
  clear W0_8 X0_8 X1_8 G0_8 T_8 hb9 hbel8
  clear T_9
  go_wp2_with fail
  refine (toInt64S_own _ z1 _ (hv1.below hbel9) (by omega)).mono ?_
  rintro e w10 ⟨rfl, T_10, hb10⟩
  have W0_10 := W0_9.below hb10
  have X0_10 := X0_9.below hb10
  have X1_10 := X1_9.below hb10
  have G0_10 := G0_9.below hb10
  have hbel10 := hbel9.trans (hb10.mono hbel9.size)
  have hs10 := hb10.size
  clear W0_9 X0_9 X1_9 G0_9 hb10 hbel9
  go_wp2_with fail
  refine (eqInt64S_own _ _ z1 _ X1_10.nts T_10.nts (by omega)).mono ?_
  rintro e w11 ⟨rfl, hb11⟩
  have W0_11 := W0_10.below hb11
  have X0_11 := X0_10.below hb11
  have X1_11 := X1_10.below hb11
  have G0_11 := G0_10.below hb11
  have T_11 := T_10.below hb11
  have hbel11 := hbel10.trans (hb11.mono hbel10.size)
  have hs11 := hb11.size
  clear W0_10 X0_10 X1_10 G0_10 T_10 hb11 hbel10
  clear T_11
  go_wp2_with fail
  refine (markInt64S_any _ _ _ z0 1 _ X0_11 (by omega) (by omega)).mono ?_
  rintro e w12 ⟨rfl, -, hu12⟩
  have W0_12 := W0_11.upd hu12 (by omega)
  have X1_12 := X1_11.upd hu12 (by omega)
  have G0_12 := G0_11.upd hu12 (by omega)
  have hbel12 := hbel11.trans (hu12.below (by omega) (by omega))
  have hs12 := hu12.size
  clear W0_11 X1_11 G0_11 hu12 hbel11
  clear X0_11
  go_wp2_with fail
  refine (markInt64S_any _ _ _ z1 _ _ X1_12 (by omega) (by omega)).mono ?_
  rintro e w13 ⟨rfl, -, hu13⟩
  have W0_13 := W0_12.upd hu13 (by omega)
  have G0_13 := G0_12.upd hu13 (by omega)
  have hbel13 := hbel12.trans (hu13.below (by omega) (by omega))
  have hs13 := hu13.size
  clear W0_12 G0_12 hu13 hbel12
  clear X1_12
  go_wp2_with fail
  refine (eqInt64S_own _ _ (clA z0 z1) _ G0_13.nts W0_13.nts (by omega)).mono ?_
  rintro e w14 ⟨rfl, hb14⟩
  have W0_14 := W0_13.below hb14
  have G0_14 := G0_13.below hb14
  have hbel14 := hbel13.trans (hb14.mono hbel13.size)
  have hs14 := hb14.size
  clear W0_13 G0_13 hb14 hbel13
  go_wp2_with fail
  refine (markInt64S_any _ _ _ (clA z0 z1) 1 _ G0_14 (by omega) (by omega)).mono ?_
  rintro e w15 ⟨rfl, M0_15, hu15⟩
  have W0_15 := W0_14.upd hu15 (by omega)
  have hbel15 := hbel14.trans (hu15.below (by omega) (by omega))
  have hs15 := hu15.size
  clear W0_14 hu15 hbel14
  clear G0_14
  go_wp2_with fail
  refine (heldInt64S_any _ 1 (clA z0 z1).length _ M0_15.nts (by omega) (by omega)).mono ?_
  rintro e w1015 ⟨rfl, rfl⟩
  clear M0_15
  go_wp2_with fail
  refine (toInt64S_own _ z0 _ (hv0.below hbel15) (by omega)).mono ?_
  rintro e w16 ⟨rfl, Y0_16, hb16⟩
  have W0_16 := W0_15.below hb16
  have hbel16 := hbel15.trans (hb16.mono hbel15.size)
  have hs16 := hb16.size
  clear W0_15 hb16 hbel15
  go_wp2_with fail
  refine (toInt64S_own _ z1 _ (hv1.below hbel16) (by omega)).mono ?_
  rintro e w17 ⟨rfl, Y1_17, hb17⟩
  have W0_17 := W0_16.below hb17
  have Y0_17 := Y0_16.below hb17
  have hbel17 := hbel16.trans (hb17.mono hbel16.size)
  have hs17 := hb17.size
  clear W0_16 Y0_16 hb17 hbel16
  go_wp2_with fail
  refine (implClassify_any _ _ z0 _ _ z1 _ Y0_17.nts Y1_17.nts hl0 hl1).mono ?_
  rintro e w18 ⟨Ha0, Hc0, rfl, H0_18, hb18⟩
  have W0_18 := W0_17.below hb18
  have Y0_18 := Y0_17.below hb18
  have Y1_18 := Y1_17.below hb18
  have hbel18 := hbel17.trans (hb18.mono hbel17.size)
  have hs18 := hb18.size
  clear W0_17 Y0_17 Y1_17 hb18 hbel17
  go_wp2_with fail
  refine (eqInt64S_own _ _ (clA z0 z1) _ H0_18.nts W0_18.nts (by omega)).mono ?_
  rintro e w19 ⟨rfl, hb19⟩
  have W0_19 := W0_18.below hb19
  have Y0_19 := Y0_18.below hb19
  have Y1_19 := Y1_18.below hb19
  have H0_19 := H0_18.below hb19
  have hbel19 := hbel18.trans (hb19.mono hbel18.size)
  have hs19 := hb19.size
  clear W0_18 Y0_18 Y1_18 H0_18 hb19 hbel18
  clear W0_19 Y0_19 Y1_19 H0_19
  go_wp2
  go_ret
  exact ⟨rfl, hbel19⟩

set_option maxHeartbeats 400000 in
theorem classify_all (a0 : Option Addr) (c0 : Nat) (z0 : List Int) (a1 : Option Addr) (c1 : Nat) (z1 : List Int) (w : World) (hv0 : Nts w (.slice a0 z0.length c0) z0) (hv1 : Nts w (.slice a1 z1.length c1) z1) (hm0 : z0.length ≤ 9223372036854775807) (hm1 : z1.length ≤ 9223372036854775807) :
    Calls Try.prog 5 #[.slice a0 z0.length c0, .slice a1 z1.length c1] w fun e w' => e = .returned (.bool true) ∧ Below w.heap.size w w' := by
  by_cases hl0 : z0.length ≤ 1048576
  case neg =>
    go_enter Try.func5, Try.ntmps5
    go_wp2
    go_ret
    exact ⟨rfl, Below.refl _ _⟩
  by_cases hl1 : z1.length ≤ 1048576
  case neg =>
    go_enter Try.func5, Try.ntmps5
    go_wp2
    go_ret
    exact ⟨rfl, Below.refl _ _⟩
  exact classify_walk a0 c0 z0 a1 c1 z1 w hv0 hv1 hl0 hl1
end Go.Proofs.Ythcflbidjlediaa

import Derived.Test.YthcflbidjlediaaRn3
import Derived.Test.YthcflbidjlediaaChk3
namespace Go.Proofs.Ythcflbidjlediaa
open Go.RowKit

/-- RunsOf's list -/
def rnA (zs : List Int) : List (Int × Int × Int) := if chk [zs] = 0 then rns zs zs.length else []

theorem rnA_length (zs : List Int) : (rnA zs).length ≤ 512 := by
  unfold rnA
  split
  · rename_i h
    have := (chk_ok h).1
    have := rns_length zs zs.length
    omega
  · simp

set_option maxHeartbeats 1000000 in
theorem implRunsOf_any (a : Option Addr) (c : Nat) (zs : List Int) (w : World) (hv : Nts w (.slice a zs.length c) zs) (hz : zs.length ≤ 1048576) :
    Calls Try.prog 19 #[.slice a zs.length c] w fun e w' => ∃ ua uc, e = .returned (.tuple #[.slice ua (rnA zs).length uc, .int .i64 (chk [zs])]) ∧ ROwn w.heap.size w'.heap.size w' (.slice ua (rnA zs).length uc) (rnA zs) ∧ Below w.heap.size w w' := by
  have hb1 := belowA w (.cells #[.slice a zs.length c] 24)
  by_cases h : chk [zs] = 0
  · have e1 : rnA zs = rns zs zs.length := if_pos h
    have hl := (chk_ok h).1
    have H0 : Hid (chk [zs] = 0) := h
    rw [e1]
    go_enter Try.func19, Try.ntmps19
    go_wp2_with fail
    refine (checkCounts_any _ [zs] _ (LRd.one hv _ _ rfl) (by simp) (by simp) (one_small hz)).mono ?_
    rintro e w1 ⟨rfl, rfl⟩
    rw [h]
    go_wp2_with fail
    refine (runsIn_any _ zs _ (hv.below hb1) (by omega)).mono ?_
    rintro e w2 ⟨u, rfl, hR, hb2⟩
    obtain ⟨ua, uc, rfl⟩ := hR.shape
    have hO := hR.own.wider (lo' := w.heap.size) (hi' := w2.heap.size) (by simp) (Nat.le_refl _)
    have hB := hb1.trans (hb2.mono (by simp))
    clear hR hb1 hb2 hv h
    go_wp2
    exact bodyPost_ret (v := .tuple #[.slice ua (rns zs zs.length).length uc, .int .i64 0]) (by simp [results, Try.results19, go_sem]) rfl ⟨ua, uc, by rw [H0.out], hO, hB⟩
  · have e1 : rnA zs = [] := if_neg h
    have hne : (chk [zs] != 0) = true := by simpa using h
    rw [e1]
    go_enter Try.func19, Try.ntmps19
    go_wp2_with fail
    refine (checkCounts_any _ [zs] _ (LRd.one hv _ _ rfl) (by simp) (by simp) (one_small hz)).mono ?_
    rintro e w1 ⟨rfl, rfl⟩
    clear hv h
    go_wp2
    exact bodyPost_ret (v := .tuple #[.slice none 0 0, .int .i64 (chk [zs])]) (by simp [results, Try.results19, go_sem]) rfl ⟨none, 0, rfl, ROwn.empty _ _ _ _ _, hb1⟩

set_option maxHeartbeats 1000000 in
theorem specRunsOf_any (a : Option Addr) (c : Nat) (zs : List Int) (w : World) (hv : Nts w (.slice a zs.length c) zs) (hz : zs.length ≤ 1048576) :
    Calls Try.prog 18 #[.slice a zs.length c] w fun e w' => ∃ ua uc, e = .returned (.tuple #[.slice ua (rnA zs).length uc, .int .i64 (chk [zs])]) ∧ ROwn w.heap.size w'.heap.size w' (.slice ua (rnA zs).length uc) (rnA zs) ∧ Below w.heap.size w w' := by
  by_cases h : chk [zs] = 0
  · have e1 : rnA zs = rns zs zs.length := if_pos h
    have hl := (chk_ok h).1
    have H0 : Hid (chk [zs] = 0) := h
    rw [e1]
    go_enter Try.func18, Try.ntmps18
    go_wp2_with fail
    refine (l3Check_any _ zs _ hv hz).mono ?_
    rintro e w1 ⟨rfl, n, hw1⟩
    have hb1 : Below w.heap.size w w1 := by rw [hw1]; exact below_drewN (Below.refl _ _) n
    have hs1 := hb1.size
    clear hw1
    rw [h]
    go_wp2_with fail
    refine (l3Runs_any _ zs _ (hv.below hb1) (by omega)).mono ?_
    rintro e w2 ⟨u, rfl, hR, hb2⟩
    obtain ⟨ua, uc, rfl⟩ := hR.shape
    have hO := hR.own.wider (lo' := w.heap.size) (hi' := w2.heap.size) hs1 (Nat.le_refl _)
    have hB := hb1.trans (hb2.mono hs1)
    clear hR hb1 hb2 hv h
    go_wp2
    exact bodyPost_ret (v := .tuple #[.slice ua (rns zs zs.length).length uc, .int .i64 0]) (by simp [results, Try.results18, go_sem]) rfl ⟨ua, uc, by rw [H0.out], hO, hB⟩
  · have e1 : rnA zs = [] := if_neg h
    have hne : (chk [zs] != 0) = true := by simpa using h
    rw [e1]
    go_enter Try.func18, Try.ntmps18
    go_wp2_with fail
    refine (l3Check_any _ zs _ hv hz).mono ?_
    rintro e w1 ⟨rfl, n, hw1⟩
    have hb1 : Below w.heap.size w w1 := by rw [hw1]; exact below_drewN (Below.refl _ _) n
    clear hw1 hv h
    go_wp2
    exact bodyPost_ret (v := .tuple #[.slice none 0 0, .int .i64 (chk [zs])]) (by simp [results, Try.results18, go_sem]) rfl ⟨none, 0, rfl, ROwn.empty _ _ _ _ _, hb1⟩

set_option maxHeartbeats 8000000 in
theorem runsOf_walk (a0 : Option Addr) (c0 : Nat) (z0 : List Int) (w : World) (hv0 : Nts w (.slice a0 z0.length c0) z0) (hl0 : z0.length ≤ 1048576) :
    Calls Try.prog 6 #[.slice a0 z0.length c0] w fun e w' => e = .returned (.bool true) ∧ Below w.heap.size w w' := by
  have hr0 := rnA_length z0
  have hne : (chk [z0] != chk [z0]) = false := by simp
  go_enter Try.func6, Try.ntmps6
  go_wp2_with fail
  refine (toInt64S_own _ z0 _ hv0 (by omega)).mono ?_
  rintro e w1 ⟨rfl, s0_1, hb1⟩
  have hbel1 := hb1
  have hs1 := hb1.size
  clear hb1
  go_wp2_with fail
  refine (specRunsOf_any _ _ z0 _ s0_1.nts hl0).mono ?_
  rintro e w2 ⟨Wa0, Wc0, rfl, W0_2, hb2⟩
  have s0_2 := s0_1.below hb2
  have hbel2 := hbel1.trans (hb2.mono hbel1.size)
  have hs2 := hb2.size
  clear s0_1 hb2 hbel1
  clear s0_2
  go_wp2_with fail
  refine (toInt64S_own _ z0 _ (hv0.below hbel2) (by omega)).mono ?_
  rintro e w3 ⟨rfl, X0_3, hb3⟩
  have W0_3 := W0_2.below hb3
  have hbel3 := hbel2.trans (hb3.mono hbel2.size)
  have hs3 := hb3.size
  clear W0_2 hb3 hbel2
  go_wp2_with fail
  refine (implRunsOf_any _ _ z0 _ X0_3.nts hl0).mono ?_
  rintro e w4 ⟨Ga0, Gc0, rfl, G0_4, hb4⟩
  have W0_4 := W0_3.below hb4
  have X0_4 := X0_3.below hb4
  have hbel4 := hbel3.trans (hb4.mono hbel3.size)
  have hs4 := hb4.size
  clear W0_3 X0_3 hb4 hbel3
  go_wp2_with fail
  refine (eqRunS_own _ _ (rnA z0) _ G0_4.read W0_4.read (by omega)).mono ?_
  rintro e w5 ⟨rfl, hb5⟩
  have W0_5 := W0_4.below hb5
  have X0_5 := X0_4.below hb5
  have G0_5 := G0_4.below hb5
  have hbel5 := hbel4.trans (hb5.mono hbel4.size)
  have hs5 := hb5.size
  clear W0_4 X0_4 G0_4 hb5 hbel4
  go_wp2_with fail
  refine (toInt64S_own _ z0 _ (hv0.below hbel5) (by omega)).mono ?_
  rintro e w6 ⟨rfl, T_6, hb6⟩
  have W0_6 := W0_5.below hb6
  have X0_6 := X0_5.below hb6
  have G0_6 := G0_5.below hb6
  have hbel6 := hbel5.trans (hb6.mono hbel5.size)
  have hs6 := hb6.size
  clear W0_5 X0_5 G0_5 hb6 hbel5
  go_wp2_with fail
  refine (eqInt64S_own _ _ z0 _ X0_6.nts T_6.nts (by omega)).mono ?_
  rintro e w7 ⟨rfl, hb7⟩
  have W0_7 := W0_6.below hb7
  have X0_7 := X0_6.below hb7
  have G0_7 := G0_6.below hb7
  have T_7 := T_6.below hb7
  have hbel7 := hbel6.trans (hb7.mono hbel6.size)
  have hs7 := hb7.size
  clear W0_6 X0_6 G0_6 T_6 hb7 hbel6
  clear T_7
  go_wp2_with fail
  refine (markInt64S_any _ _ _ z0 1 _ X0_7 (by omega) (by omega)).mono ?_
  rintro e w8 ⟨rfl, -, hu8⟩
  have W0_8 := W0_7.upd hu8 (by omega)
  have G0_8 := G0_7.upd hu8 (by omega)
  have hbel8 := hbel7.trans (hu8.below (by omega) (by omega))
  have hs8 := hu8.size
  clear W0_7 G0_7 hu8 hbel7
  clear X0_7
  go_wp2_with fail
  refine (eqRunS_own _ _ (rnA z0) _ G0_8.read W0_8.read (by omega)).mono ?_
  rintro e w9 ⟨rfl, hb9⟩
  have W0_9 := W0_8.below hb9
  have G0_9 := G0_8.below hb9
  have hbel9 := hbel8.trans (hb9.mono hbel8.size)
  have hs9 := hb9.size
  clear W0_8 G0_8 hb9 hbel8
  go_wp2_with fail
  refine (markRunS_any _ _ _ (rnA z0) 1 _ G0_9 (by omega) (by omega)).mono ?_
  rintro e w10 ⟨rfl, M0_10, hu10⟩
  have W0_10 := W0_9.upd hu10 (by omega)
  have hbel10 := hbel9.trans (hu10.below (by omega) (by omega))
  have hs10 := hu10.size
  clear W0_9 hu10 hbel9
  clear G0_9
  go_wp2_with fail
  refine (heldRunS_any _ 1 (rnA z0).length _ M0_10.read (by omega) (by omega)).mono ?_
  rintro e w1010 ⟨rfl, rfl⟩
  clear M0_10
  go_wp2_with fail
  refine (toInt64S_own _ z0 _ (hv0.below hbel10) (by omega)).mono ?_
  rintro e w11 ⟨rfl, Y0_11, hb11⟩
  have W0_11 := W0_10.below hb11
  have hbel11 := hbel10.trans (hb11.mono hbel10.size)
  have hs11 := hb11.size
  clear W0_10 hb11 hbel10
  go_wp2_with fail
  refine (implRunsOf_any _ _ z0 _ Y0_11.nts hl0).mono ?_
  rintro e w12 ⟨Ha0, Hc0, rfl, H0_12, hb12⟩
  have W0_12 := W0_11.below hb12
  have Y0_12 := Y0_11.below hb12
  have hbel12 := hbel11.trans (hb12.mono hbel11.size)
  have hs12 := hb12.size
  clear W0_11 Y0_11 hb12 hbel11
  go_wp2_with fail
  refine (eqRunS_own _ _ (rnA z0) _ H0_12.read W0_12.read (by omega)).mono ?_
  rintro e w13 ⟨rfl, hb13⟩
  have W0_13 := W0_12.below hb13
  have Y0_13 := Y0_12.below hb13
  have H0_13 := H0_12.below hb13
  have hbel13 := hbel12.trans (hb13.mono hbel12.size)
  have hs13 := hb13.size
  clear W0_12 Y0_12 H0_12 hb13 hbel12
  clear W0_13 Y0_13 H0_13
  go_wp2
  go_ret
  exact ⟨rfl, hbel13⟩

set_option maxHeartbeats 400000 in
theorem runsOf_all (a0 : Option Addr) (c0 : Nat) (z0 : List Int) (w : World) (hv0 : Nts w (.slice a0 z0.length c0) z0) (hm0 : z0.length ≤ 9223372036854775807) :
    Calls Try.prog 6 #[.slice a0 z0.length c0] w fun e w' => e = .returned (.bool true) ∧ Below w.heap.size w w' := by
  by_cases hl0 : z0.length ≤ 1048576
  case neg =>
    go_enter Try.func6, Try.ntmps6
    go_wp2
    go_ret
    exact ⟨rfl, Below.refl _ _⟩
  exact runsOf_walk a0 c0 z0 w hv0 hl0
end Go.Proofs.Ythcflbidjlediaa

import Derived.Test.YthcflbidjlediaaFr3
namespace Go.Proofs.Ythcflbidjlediaa
open Go.RowKit

theorem low_cases (zs ys : List Int) : (frs zs ys zs.length zs.length = [] ∧ low zs ys = 0) ∨ ∃ x t, frs zs ys zs.length zs.length = x :: t ∧ low zs ys = (x.1 : Int) := by
  unfold low
  cases h : frs zs ys zs.length zs.length with
  | nil => exact .inl ⟨rfl, rfl⟩
  | cons x t => exact .inr ⟨x, t, rfl, rfl⟩

/-- LowestFree's two answers -/
def lowV (zs ys : List Int) : Int := if chk [zs, ys] = 0 then low zs ys else 0
def lowC (zs ys : List Int) : Int := if chk [zs, ys] = 0 then (if low zs ys = 0 then 7 else 0) else chk [zs, ys]

set_option maxHeartbeats 1000000 in
theorem implLowest_any (a : Option Addr) (c : Nat) (zs : List Int) (a' : Option Addr) (c' : Nat) (ys : List Int) (w : World) (hv : Nts w (.slice a zs.length c) zs) (hv' : Nts w (.slice a' ys.length c') ys) (hz : zs.length ≤ 1048576) (hy : ys.length ≤ 1048576) :
    Calls Try.prog 12 #[.slice a zs.length c, .slice a' ys.length c'] w fun e w' => e = .returned (.tuple #[.int .i64 (lowV zs ys), .int .i64 (lowC zs ys)]) ∧ Below w.heap.size w w' := by
  have hb1 := belowA w (.cells #[.slice a zs.length c, .slice a' ys.length c'] 24)
  by_cases h : chk [zs, ys] = 0
  · obtain ⟨hl, hc1, hc2⟩ := chk_two_ok h
    have hz := (chk_ok hc1).1
    have HV : Hid (lowV zs ys = low zs ys) := if_pos h
    have HC : Hid (lowC zs ys = if low zs ys = 0 then 7 else 0) := if_pos h
    have HL : Hid (ys.length = zs.length) := hl.symm
    clear hc1 hc2 hl
    go_enter Try.func12, Try.ntmps12
    go_wp2_with fail
    refine (checkCounts_any _ [zs, ys] _ (LRd.two hv hv' _ _ rfl) (by simp) (by simp) (two_small (by omega) (by omega))).mono ?_
    rintro e w1 ⟨rfl, rfl⟩
    rw [h]
    go_wp2_with fail
    refine (lowestFree_any _ _ _ _ zs ys HL.out (by omega) (by omega) _ (hv.below hb1) (hv'.below hb1)).mono ?_
    rintro e w2 ⟨rfl, hb2⟩
    have hB := hb1.trans (hb2.mono (by simp))
    clear hv hv' hb1 hb2 h
    rcases low_cases zs ys with ⟨-, h1⟩ | ⟨x, t, -, h1⟩
    · rw [h1] at HV HC ⊢
      go_wp2
      exact bodyPost_ret (v := .tuple #[.int .i64 0, .int .i64 7]) (by simp [results, Try.results12, go_sem]) rfl ⟨by rw [HV.out, HC.out]; rfl, hB⟩
    · have hx := x.2.1
      have hx2 := x.2.2
      rw [h1] at HV HC ⊢
      have HC2 : Hid (lowC zs ys = 0) := by rw [HC.out, if_neg (by omega)]; rfl
      have hne : ((x.1 : Int) == 0) = false := by simp; omega
      generalize x.1 = y at *
      go_wp2
      exact bodyPost_ret (v := .tuple #[.int .i64 y, .int .i64 0]) (by simp [results, Try.results12, go_sem]) rfl ⟨by rw [HV.out, HC2.out], hB⟩
  · have HV : Hid (lowV zs ys = 0) := if_neg h
    have HC : Hid (lowC zs ys = chk [zs, ys]) := if_neg h
    have hne : (chk [zs, ys] != 0) = true := by simpa using h
    go_enter Try.func12, Try.ntmps12
    go_wp2_with fail
    refine (checkCounts_any _ [zs, ys] _ (LRd.two hv hv' _ _ rfl) (by simp) (by simp) (two_small hz hy)).mono ?_
    rintro e w1 ⟨rfl, rfl⟩
    clear hv hv' h
    go_wp2
    exact bodyPost_ret (v := .tuple #[.int .i64 0, .int .i64 (chk [zs, ys])]) (by simp [results, Try.results12, go_sem]) rfl ⟨by rw [HV.out, HC.out], hb1⟩

set_option maxHeartbeats 1000000 in
theorem specLowest_any (a : Option Addr) (c : Nat) (zs : List Int) (a' : Option Addr) (c' : Nat) (ys : List Int) (w : World) (hv : Nts w (.slice a zs.length c) zs) (hv' : Nts w (.slice a' ys.length c') ys) (hz : zs.length ≤ 1048576) (hy : ys.length ≤ 1048576) :
    Calls Try.prog 10 #[.slice a zs.length c, .slice a' ys.length c'] w fun e w' => e = .returned (.tuple #[.int .i64 (lowV zs ys), .int .i64 (lowC zs ys)]) ∧ Below w.heap.size w w' := by
  by_cases h : chk [zs, ys] = 0
  · obtain ⟨hl, hc1, hc2⟩ := chk_two_ok h
    have hz := (chk_ok hc1).1
    have HV : Hid (lowV zs ys = low zs ys) := if_pos h
    have HC : Hid (lowC zs ys = if low zs ys = 0 then 7 else 0) := if_pos h
    have HL : Hid (ys.length = zs.length) := hl.symm
    clear hc1 hc2 hl
    go_enter Try.func10, Try.ntmps10
    go_wp2_with fail
    refine (l3CheckTwo_any _ _ zs ys _ hv hv' (by omega) (by omega)).mono ?_
    rintro e w1 ⟨rfl, hb1⟩
    rw [h]
    have hs1 := hb1.size
    go_wp2_with fail
    refine (l3Free_any _ _ _ _ zs ys _ (hv.below hb1) (hv'.below hb1) HL.out (by omega) (by omega)).mono ?_
    rintro e w2 ⟨u, rfl, hR, hb2⟩
    obtain ⟨ua, uc, rfl⟩ := hR.shape
    have hB := hb1.trans (hb2.mono hs1)
    have hO := (hR.own (fun i => frI_small zs ys _ _ i (by omega))).nts
    clear hv hv' hb1 hb2 h hR
    rcases low_cases zs ys with ⟨h0, h1⟩ | ⟨x, t, h0, h1⟩
    · have hfl : frI zs ys zs.length zs.length = [] := by unfold frI; rw [h0]; rfl
      rw [hfl]
      rw [h1] at HV HC
      clear hO hfl h0 h1
      go_wp2
      exact bodyPost_ret (v := .tuple #[.int .i64 0, .int .i64 7]) (by simp [results, Try.results10, go_sem]) rfl ⟨by rw [HV.out, HC.out]; rfl, hB⟩
    · have hx := x.2.1
      have hfl : frI zs ys zs.length zs.length = (x.1 : Int) :: t.map (fun x => (x.1 : Int)) := by unfold frI; rw [h0]; rfl
      rw [h1] at HV HC
      have HC2 : Hid (lowC zs ys = 0) := by rw [HC.out, if_neg (by omega)]; rfl
      obtain ⟨_, _, he, hs⟩ := hO.shape
      simp only [Value.slice.injEq, true_and] at he
      obtain ⟨rfl, rfl⟩ := he
      have hlen : 0 < (frI zs ys zs.length zs.length).length := by rw [hfl]; simp
      have hlen2 := frI_length zs ys zs.length zs.length
      obtain ⟨b, off, rfl, hcell⟩ := hs hlen
      have g0 := hcell 0 hlen
      rw [hfl] at g0
      simp only [List.getD_cons_zero, Nat.add_zero] at g0
      have hne : (((frI zs ys zs.length zs.length).length : Int) == 0) = false := beq_eq_false_iff_ne.2 (by omega)
      generalize (frI zs ys zs.length zs.length).length = m at *
      generalize x.1 = y at *
      clear hO hfl h0 h1 hs hcell
      go_wp2
      exact bodyPost_ret (v := .tuple #[.int .i64 y, .int .i64 0]) (by simp [results, Try.results10, go_sem]) rfl ⟨by rw [HV.out, HC2.out], hB⟩
  · have HV : Hid (lowV zs ys = 0) := if_neg h
    have HC : Hid (lowC zs ys = chk [zs, ys]) := if_neg h
    have hne : (chk [zs, ys] != 0) = true := by simpa using h
    go_enter Try.func10, Try.ntmps10
    go_wp2_with fail
    refine (l3CheckTwo_any _ _ zs ys _ hv hv' hz hy).mono ?_
    rintro e w1 ⟨rfl, hb1⟩
    clear hv hv' h
    go_wp2
    exact bodyPost_ret (v := .tuple #[.int .i64 0, .int .i64 (chk [zs, ys])]) (by simp [results, Try.results10, go_sem]) rfl ⟨by rw [HV.out, HC.out], hb1⟩

set_option maxHeartbeats 8000000 in
theorem lowest_walk (a0 : Option Addr) (c0 : Nat) (z0 : List Int) (a1 : Option Addr) (c1 : Nat) (z1 : List Int) (w : World) (hv0 : Nts w (.slice a0 z0.length c0) z0) (hv1 : Nts w (.slice a1 z1.length c1) z1) (hl0 : z0.length ≤ 1048576) (hl1 : z1.length ≤ 1048576) :
    Calls Try.prog 4 #[.slice a0 z0.length c0, .slice a1 z1.length c1] w fun e w' => e = .returned (.bool true) ∧ Below w.heap.size w w' := by
  have hne0 : (lowV z0 z1 != lowV z0 z1) = false := by simp
  have hne1 : (lowC z0 z1 != lowC z0 z1) = false := by simp
  go_enter Try.func4, Try.ntmps4
  go_wp2_with fail
  refine (toInt64S_own _ z0 _ hv0 (by omega)).mono ?_
  rintro e w1 ⟨rfl, s0_1, hb1⟩
  have hbel1 := hb1
  have hs1 := hb1.size
  clear hb1
  go_wp2_with fail
  refine (toInt64S_own _ z1 _ (hv1.below hbel1) (by omega)).mono ?_
  rintro e w2 ⟨rfl, s1_2, hb2⟩
  have s0_2 := s0_1.below hb2
  have hbel2 := hbel1.trans (hb2.mono hbel1.size)
  have hs2 := hb2.size
  clear s0_1 hb2 hbel1
  go_wp2_with fail
  refine (specLowest_any _ _ z0 _ _ z1 _ s0_2.nts s1_2.nts hl0 hl1).mono ?_
  rintro e w3 ⟨rfl, hb3⟩
  have s0_3 := s0_2.below hb3
  have s1_3 := s1_2.below hb3
  have hbel3 := hbel2.trans (hb3.mono hbel2.size)
  have hs3 := hb3.size
  clear s0_2 s1_2 hb3 hbel2
  clear s0_3
  clear s1_3
  go_wp2_with fail
  refine (toInt64S_own _ z0 _ (hv0.below hbel3) (by omega)).mono ?_
  rintro e w4 ⟨rfl, X0_4, hb4⟩
  have hbel4 := hbel3.trans (hb4.mono hbel3.size)
  have hs4 := hb4.size
  clear hb4 hbel3
  go_wp2_with fail
  refine (toInt64S_own _ z1 _ (hv1.below hbel4) (by omega)).mono ?_
  rintro e w5 ⟨rfl, X1_5, hb5⟩
  have X0_5 := X0_4.below hb5
  have hbel5 := hbel4.trans (hb5.mono hbel4.size)
  have hs5 := hb5.size
  clear X0_4 hb5 hbel4
  go_wp2_with fail
  refine (implLowest_any _ _ z0 _ _ z1 _ X0_5.nts X1_5.nts hl0 hl1).mono ?_
  rintro e w6 ⟨rfl, hb6⟩
  have X0_6 := X0_5.below hb6
  have X1_6 := X1_5.below hb6
  have hbel6 := hbel5.trans (hb6.mono hbel5.size)
  have hs6 := hb6.size
  clear X0_5 X1_5 hb6 hbel5
  go_wp2_with fail
  refine (toInt64S_own _ z0 _ (hv0.below hbel6) (by omega)).mono ?_
  rintro e w7 ⟨rfl, T_7, hb7⟩
  have X0_7 := X0_6.below hb7
  have X1_7 := X1_6.below hb7
  have hbel7 := hbel6.trans (hb7.mono hbel6.size)
  have hs7 := hb7.size
  clear X0_6 X1_6 hb7 hbel6
  go_wp2_with fail
  refine (eqInt64S_own _ _ z0 _ X0_7.nts T_7.nts (by omega)).mono ?_
  rintro e w8 ⟨rfl, hb8⟩
  have X0_8 := X0_7.below hb8
  have X1_8 := X1_7.below hb8
  have T_8 := T_7.below hb8
  have hbel8 := hbel7.trans (hb8.mono hbel7.size)
  have hs8 := hb8.size
  clear X0_7 X1_7 T_7 hb8 hbel7
  clear T_8
  go_wp2_with fail
  refine (toInt64S_own _ z1 _ (hv1.below hbel8) (by omega)).mono ?_
  rintro e w9 ⟨rfl, T_9, hb9⟩
  have X0_9 := X0_8.below hb9
  have X1_9 := X1_8.below hb9
  have hbel9 := hbel8.trans (hb9.mono hbel8.size)
  have hs9 := hb9.size
  clear X0_8 X1_8 hb9 hbel8
  go_wp2_with fail
  refine (eqInt64S_own _ _ z1 _ X1_9.nts T_9.nts (by omega)).mono ?_
  rintro e w10 ⟨rfl, hb10⟩
  have X0_10 := X0_9.below hb10
  have X1_10 := X1_9.below hb10
  have T_10 := T_9.below hb10
  have hbel10 := hbel9.trans (hb10.mono hbel9.size)
  have hs10 := hb10.size
  clear X0_9 X1_9 T_9 hb10 hbel9
  clear T_10
  clear X0_10 X1_10
  go_wp2
  go_ret
  exact ⟨rfl, hbel10⟩

set_option maxHeartbeats 400000 in
theorem lowest_all (a0 : Option Addr) (c0 : Nat) (z0 : List Int) (a1 : Option Addr) (c1 : Nat) (z1 : List Int) (w : World) (hv0 : Nts w (.slice a0 z0.length c0) z0) (hv1 : Nts w (.slice a1 z1.length c1) z1) (hm0 : z0.length ≤ 9223372036854775807) (hm1 : z1.length ≤ 9223372036854775807) :
    Calls Try.prog 4 #[.slice a0 z0.length c0, .slice a1 z1.length c1] w fun e w' => e = .returned (.bool true) ∧ Below w.heap.size w w' := by
  by_cases hl0 : z0.length ≤ 1048576
  case neg =>
    go_enter Try.func4, Try.ntmps4
    go_wp2
    go_ret
    exact ⟨rfl, Below.refl _ _⟩
  by_cases hl1 : z1.length ≤ 1048576
  case neg =>
    go_enter Try.func4, Try.ntmps4
    go_wp2
    go_ret
    exact ⟨rfl, Below.refl _ _⟩
  exact lowest_walk a0 c0 z0 a1 c1 z1 w hv0 hv1 hl0 hl1
end Go.Proofs.Ythcflbidjlediaa

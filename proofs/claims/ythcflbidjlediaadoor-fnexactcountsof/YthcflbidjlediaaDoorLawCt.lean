import Derived.Test.YthcflbidjlediaaDoorCt8
import Derived.Test.YthcflbidjlediaaDoorCt1
namespace Go.Proofs.YthcflbidjlediaaDoor
open Go.RowKit

set_option maxHeartbeats 400000 in
theorem szRunS_ok (v : Value) (rs : List (Int × Int × Int)) (w : World) (hv : RRead w v rs) (hn : rs.length ≤ 1048576) :
    Calls Tryd.prog 4 #[v, .int .i64 1048576] w fun e w' => e = .returned (.int .i64 (1048576 - (rs.length : Int))) ∧ w = w' := by
  obtain ⟨a, cap, rfl, hc⟩ := hv
  clear hc
  have h : ¬ (1048576 - (rs.length : Int)) < 0 := by omega
  go_enter Tryd.func4, Tryd.ntmps4
  go_wp2
  go_ret
  exact ⟨rfl, rfl⟩

set_option maxHeartbeats 400000 in
theorem szRunS_no (v : Value) (rs : List (Int × Int × Int)) (w : World) (hv : RRead w v rs) (hn : ¬ rs.length ≤ 1048576) (hm : rs.length ≤ 9223372036854775807) :
    Calls Tryd.prog 4 #[v, .int .i64 1048576] w fun e w' => e = .returned (.int .i64 (-1)) ∧ w = w' := by
  obtain ⟨a, cap, rfl, hc⟩ := hv
  clear hc
  have h : (1048576 - (rs.length : Int)) < 0 := by omega
  go_enter Tryd.func4, Tryd.ntmps4
  go_wp2
  go_ret
  exact ⟨rfl, rfl⟩

theorem ctL_dev {B : Int} {rs : List R3} (h : ¬ (8 ≤ B ∧ B ≤ 512)) : ctL B rs = [] := ctL_no (by rw [ctC_dev h]; decide)

theorem implCounts_any (B : Int) (a : Option Addr) (c : Nat) (rs : List R3) (w : World) {adr : Nat → Addr} (hL : Laid w adr) (hv : RRead w (.slice a rs.length c) rs) (hn : rs.length ≤ 1048576) :
    Calls Tryd.prog 7 #[.int .i64 B, .slice a rs.length c] w fun e w' => ∃ ua uc, e = .returned (.tuple #[.slice ua (ctL B rs).length uc, .int .i64 (ctC B rs)]) ∧ Own64 w.heap.size w'.heap.size w' (.slice ua (ctL B rs).length uc) (ctL B rs) ∧ Below w.heap.size w w' := by
  by_cases hB : 8 ≤ B ∧ B ≤ 512
  · obtain ⟨n, rfl⟩ : ∃ n : Nat, B = n := ⟨B.toNat, by omega⟩
    refine (implCounts_in n a c rs w hL (by omega) hv hn).mono ?_
    rintro e w' ⟨⟨u, rfl, ho⟩, hb⟩
    obtain ⟨ua, uc, hu, -⟩ := ho.shape
    subst hu
    exact ⟨ua, uc, rfl, ho, hb⟩
  · refine (implCounts_dev B _ w hB).mono ?_
    rintro e w' ⟨rfl, hb⟩
    rw [ctL_dev hB, ctC_dev hB]
    exact ⟨none, 0, rfl, Own64.empty _ _ _ _ _, hb⟩

theorem specCounts_any (B : Int) (a : Option Addr) (c : Nat) (rs : List R3) (w : World) (hv : RRead w (.slice a rs.length c) rs) (hn : rs.length ≤ 1048576) :
    Calls Tryd.prog 5 #[.int .i64 B, .slice a rs.length c] w fun e w' => ∃ ua uc, e = .returned (.tuple #[.slice ua (ctL B rs).length uc, .int .i64 (ctC B rs)]) ∧ Own64 w.heap.size w'.heap.size w' (.slice ua (ctL B rs).length uc) (ctL B rs) ∧ Below w.heap.size w w' := by
  by_cases hB : 8 ≤ B ∧ B ≤ 512
  · obtain ⟨n, rfl⟩ : ∃ n : Nat, B = n := ⟨B.toNat, by omega⟩
    refine (specCounts_in n a c rs w (by omega) hv hn).mono ?_
    rintro e w' ⟨⟨u, rfl, ho⟩, hb⟩
    obtain ⟨ua, uc, hu, -⟩ := ho.shape
    subst hu
    exact ⟨ua, uc, rfl, ho, hb⟩
  · refine (specCounts_dev B _ w hB).mono ?_
    rintro e w' ⟨rfl, hb⟩
    rw [ctL_dev hB, ctC_dev hB]
    exact ⟨none, 0, rfl, Own64.empty _ _ _ _ _, hb⟩

set_option maxHeartbeats 8000000 in
theorem countsOf_walk (x0 : Int) (a1 : Option Addr) (c1 : Nat) (z1 : List (Int × Int × Int)) (w : World) {adr : Nat → Addr} (hL : Laid w adr) (hv1 : RRead w (.slice a1 z1.length c1) z1) (hl1 : z1.length ≤ 1048576) :
    Calls Tryd.prog 3 #[.int .i64 x0, .slice a1 z1.length c1] w fun e w' => e = .returned (.bool true) ∧ Below w.heap.size w w' := by
  have hr0 := ctL_length x0 z1
  have hne0 : (ctC x0 z1 != ctC x0 z1) = false := by simp
  go_enter Tryd.func3, Tryd.ntmps3
  go_wp2_with fail
  refine (szRunS_ok _ z1 _ hv1 hl1).mono ?_
  rintro e wz ⟨rfl, rfl⟩
  have hleft : ¬ (1048576 - (z1.length : Int)) < 0 := by omega
  go_wp2_with fail
  refine (toRunS_own _ z1 _ hv1 (by omega)).mono ?_
  rintro e w1 ⟨rfl, s1_1, hb1⟩
  have hbel1 := hb1
  have hs1 := hb1.size
  clear hb1
  go_wp2_with fail
  refine (specCounts_any x0 _ _ z1 _ s1_1.read hl1).mono ?_
  rintro e w2 ⟨Wa0, Wc0, rfl, W0_2, hb2⟩
  have s1_2 := s1_1.below hb2
  have hbel2 := hbel1.trans (hb2.mono hbel1.size)
  have hs2 := hb2.size
  clear s1_1 hb2 hbel1
  clear s1_2
  go_wp2_with fail
  refine (toRunS_own _ z1 _ (hv1.below hbel2) (by omega)).mono ?_
  rintro e w3 ⟨rfl, X1_3, hb3⟩
  have W0_3 := W0_2.below hb3
  have hbel3 := hbel2.trans (hb3.mono hbel2.size)
  have hs3 := hb3.size
  clear W0_2 hb3 hbel2
  go_wp2_with fail
  refine (implCounts_any x0 _ _ z1 _ (hL.below hbel3) X1_3.read hl1).mono ?_
  rintro e w4 ⟨Ga0, Gc0, rfl, G0_4, hb4⟩
  have W0_4 := W0_3.below hb4
  have X1_4 := X1_3.below hb4
  have hbel4 := hbel3.trans (hb4.mono hbel3.size)
  have hs4 := hb4.size
  clear W0_3 X1_3 hb4 hbel3
  go_wp2_with fail
  refine (eqInt64S_own _ _ (ctL x0 z1) _ G0_4.nts W0_4.nts (by omega)).mono ?_
  rintro e w5 ⟨rfl, hb5⟩
  have W0_5 := W0_4.below hb5
  have X1_5 := X1_4.below hb5
  have G0_5 := G0_4.below hb5
  have hbel5 := hbel4.trans (hb5.mono hbel4.size)
  have hs5 := hb5.size
  clear W0_4 X1_4 G0_4 hb5 hbel4
  go_wp2_with fail
  refine (toRunS_own _ z1 _ (hv1.below hbel5) (by omega)).mono ?_
  rintro e w6 ⟨rfl, T_6, hb6⟩
  have W0_6 := W0_5.below hb6
  have X1_6 := X1_5.below hb6
  have G0_6 := G0_5.below hb6
  have hbel6 := hbel5.trans (hb6.mono hbel5.size)
  have hs6 := hb6.size
  clear W0_5 X1_5 G0_5 hb6 hbel5
  go_wp2_with fail
  refine (eqRunS_own _ _ z1 _ X1_6.read T_6.read (by omega)).mono ?_
  rintro e w7 ⟨rfl, hb7⟩
  have W0_7 := W0_6.below hb7
  have X1_7 := X1_6.below hb7
  have G0_7 := G0_6.below hb7
  have T_7 := T_6.below hb7
  have hbel7 := hbel6.trans (hb7.mono hbel6.size)
  have hs7 := hb7.size
  clear W0_6 X1_6 G0_6 T_6 hb7 hbel6
  clear T_7
  go_wp2_with fail
  refine (markRunS_any _ _ _ z1 1 _ X1_7 (by omega) (by omega)).mono ?_
  rintro e w8 ⟨rfl, -, hu8⟩
  have W0_8 := W0_7.upd hu8 (by omega)
  have G0_8 := G0_7.upd hu8 (by omega)
  have hbel8 := hbel7.trans (hu8.below (by omega) (by omega))
  have hs8 := hu8.size
  clear W0_7 G0_7 hu8 hbel7
  clear X1_7
  go_wp2_with fail
  refine (eqInt64S_own _ _ (ctL x0 z1) _ G0_8.nts W0_8.nts (by omega)).mono ?_
  rintro e w9 ⟨rfl, hb9⟩
  have W0_9 := W0_8.below hb9
  have G0_9 := G0_8.below hb9
  have hbel9 := hbel8.trans (hb9.mono hbel8.size)
  have hs9 := hb9.size
  clear W0_8 G0_8 hb9 hbel8
  go_wp2_with fail
  refine (markInt64S_any _ _ _ (ctL x0 z1) 1 _ G0_9 (by omega) (by omega)).mono ?_
  rintro e w10 ⟨rfl, M0_10, hu10⟩
  have W0_10 := W0_9.upd hu10 (by omega)
  have hbel10 := hbel9.trans (hu10.below (by omega) (by omega))
  have hs10 := hu10.size
  clear W0_9 hu10 hbel9
  clear G0_9
  go_wp2_with fail
  refine (heldInt64S_any _ 1 (ctL x0 z1).length _ M0_10.nts (by omega) (by omega)).mono ?_
  rintro e w1010 ⟨rfl, rfl⟩
  clear M0_10
  go_wp2_with fail
  refine (toRunS_own _ z1 _ (hv1.below hbel10) (by omega)).mono ?_
  rintro e w11 ⟨rfl, Y1_11, hb11⟩
  have W0_11 := W0_10.below hb11
  have hbel11 := hbel10.trans (hb11.mono hbel10.size)
  have hs11 := hb11.size
  clear W0_10 hb11 hbel10
  go_wp2_with fail
  refine (implCounts_any x0 _ _ z1 _ (hL.below hbel11) Y1_11.read hl1).mono ?_
  rintro e w12 ⟨Ha0, Hc0, rfl, H0_12, hb12⟩
  have W0_12 := W0_11.below hb12
  have Y1_12 := Y1_11.below hb12
  have hbel12 := hbel11.trans (hb12.mono hbel11.size)
  have hs12 := hb12.size
  clear W0_11 Y1_11 hb12 hbel11
  go_wp2_with fail
  refine (eqInt64S_own _ _ (ctL x0 z1) _ H0_12.nts W0_12.nts (by omega)).mono ?_
  rintro e w13 ⟨rfl, hb13⟩
  have W0_13 := W0_12.below hb13
  have Y1_13 := Y1_12.below hb13
  have H0_13 := H0_12.below hb13
  have hbel13 := hbel12.trans (hb13.mono hbel12.size)
  have hs13 := hb13.size
  clear W0_12 Y1_12 H0_12 hb13 hbel12
  clear W0_13 Y1_13 H0_13
  go_wp2
  go_ret
  exact ⟨rfl, hbel13⟩

set_option maxHeartbeats 400000 in
theorem countsOf_all (x0 : Int) (a1 : Option Addr) (c1 : Nat) (z1 : List (Int × Int × Int)) (w : World) {adr : Nat → Addr} (hL : Laid w adr) (hv1 : RRead w (.slice a1 z1.length c1) z1) (hm1 : z1.length ≤ 9223372036854775807) :
    Calls Tryd.prog 3 #[.int .i64 x0, .slice a1 z1.length c1] w fun e w' => e = .returned (.bool true) ∧ Below w.heap.size w w' := by
  by_cases hl1 : z1.length ≤ 1048576
  case neg =>
    go_enter Tryd.func3, Tryd.ntmps3
    go_wp2_with fail
    refine (szRunS_no _ z1 _ hv1 hl1 hm1).mono ?_
    rintro e wz ⟨rfl, rfl⟩
    go_wp2
    go_ret
    exact ⟨rfl, Below.refl _ _⟩
  exact countsOf_walk x0 a1 c1 z1 w hL hv1 hl1
end Go.Proofs.YthcflbidjlediaaDoor

import Derived.Test.YthcflbidjlediaaPl2
import Derived.Test.YthcflbidjlediaaPl3
namespace Go.Proofs.Ythcflbidjlediaa
open Go.RowKit
set_option linter.unusedVariables false

/-- two rows of different kinds lie apart -/
theorem rows_apart {base : Nat} {w : World} {a0 a1 : Option Addr} {n0 n1 c0 c1 : Nat} {zs : List Int} {rs : List (Int × Int × Int)} (h0 : Row64 base w (.slice a0 n0 c0) zs) (h1 : RRow base w (.slice a1 n1 c1) rs) (hb : base ≤ w.heap.size) (hz : ∀ i, -9223372036854775808 ≤ zs.getD i 0 ∧ zs.getD i 0 ≤ 9223372036854775807) :
    ∃ l0 h0 l1 h1, base ≤ l0 ∧ h0 ≤ w.heap.size ∧ base ≤ l1 ∧ h1 ≤ w.heap.size ∧ (h0 ≤ l1 ∨ h1 ≤ l0) ∧ Own64 l0 h0 w (.slice a0 n0 c0) zs ∧ ROwn l1 h1 w (.slice a1 n1 c1) rs := by
  have o0 := h0.own hz
  have o1 := h1.own
  rcases h0.2 with ⟨e, e'⟩ | ⟨g0, k0, u0, e, hb0, hh0, _⟩
  · have hz0 : zs = [] := List.eq_nil_of_length_eq_zero e'
    subst hz0
    simp only [Value.slice.injEq] at e
    obtain ⟨rfl, rfl, rfl⟩ := e
    exact ⟨base, base, base, w.heap.size, Nat.le_refl _, hb, Nat.le_refl _, Nat.le_refl _, .inl (Nat.le_refl _), Own64.empty _ _ _ _ _, o1⟩
  · rcases h1.2 with ⟨f, f'⟩ | ⟨g1, k1, u1, f, hb1, hh1, _⟩
    · have hz1 : rs = [] := List.eq_nil_of_length_eq_zero f'
      subst hz1
      simp only [Value.slice.injEq] at f
      obtain ⟨rfl, rfl, rfl⟩ := f
      exact ⟨base, w.heap.size, base, base, Nat.le_refl _, Nat.le_refl _, Nat.le_refl _, hb, .inr (Nat.le_refl _), o0, ROwn.empty _ _ _ _ _⟩
    · have hne : g0 ≠ g1 := fun e => by
        subst e
        have := hh0.symm.trans hh1
        simp at this
      have hl0 : g0 < w.heap.size := (Array.getElem?_eq_some_iff.1 hh0).1
      have hl1 : g1 < w.heap.size := (Array.getElem?_eq_some_iff.1 hh1).1
      simp only [Value.slice.injEq] at e f
      obtain ⟨rfl, rfl, rfl⟩ := e
      obtain ⟨rfl, rfl, rfl⟩ := f
      refine ⟨g0, g0 + 1, g1, g1 + 1, hb0, by omega, hb1, by omega, by omega, ?_, ?_⟩
      · obtain ⟨_, _, he, hs⟩ := o0.shape
        refine ⟨hz, _, _, rfl, fun hp => ?_⟩
        simp only [Value.slice.injEq, true_and] at he
        obtain ⟨rfl, rfl⟩ := he
        obtain ⟨_, _, he, _, _, q3, q4⟩ := hs hp
        simp only [Option.some.injEq, Addr.mk.injEq, and_true] at he
        obtain ⟨rfl, rfl⟩ := he
        exact ⟨g0, 0, rfl, Nat.le_refl _, Nat.lt_succ_self _, q3, q4⟩
      · obtain ⟨_, _, he, hs⟩ := o1
        refine ⟨_, _, rfl, fun hp => ?_⟩
        simp only [Value.slice.injEq, true_and] at he
        obtain ⟨rfl, rfl⟩ := he
        obtain ⟨_, _, he, _, _, q3, q4⟩ := hs hp
        simp only [Option.some.injEq, Addr.mk.injEq, and_true] at he
        obtain ⟨rfl, rfl⟩ := he
        exact ⟨g1, 0, rfl, Nat.le_refl _, Nat.lt_succ_self _, q3, q4⟩

theorem plP_small (zs ys : List Int) (i : Nat) : -9223372036854775808 ≤ (plP zs ys).getD i 0 ∧ (plP zs ys).getD i 0 ≤ 9223372036854775807 := by
  by_cases h : chk [zs, ys] = 0
  · have hl := (chk_ok (chk_two_ok h).2.1).1
    by_cases hi : i < (plF zs ys).length
    · have := (plF zs ys)[i].2
      simp only [plP, List.getD_eq_getElem?_getD, List.getElem?_map, List.getElem?_eq_getElem hi, Option.map_some, Option.getD_some]
      omega
    · simp [plP, List.getElem?_eq_none (Nat.le_of_not_lt hi)]
  · rw [(pl_no h).1]; simp

theorem implPlan_any (a : Option Addr) (c : Nat) (zs : List Int) (a' : Option Addr) (c' : Nat) (ys : List Int) (w : World) (hv : Nts w (.slice a zs.length c) zs) (hv' : Nts w (.slice a' ys.length c') ys) (hz : zs.length ≤ 1048576) (hy : ys.length ≤ 1048576) :
    Calls Try.prog 24 #[.slice a zs.length c, .slice a' ys.length c'] w fun e w' => ∃ a0 c0 a1 c1 l0 h0 l1 h1, e = .returned (.tuple #[.slice a0 (plP zs ys).length c0, .slice a1 (plR zs ys).length c1, .int .i64 (plC zs ys)]) ∧ w.heap.size ≤ l0 ∧ h0 ≤ w'.heap.size ∧ w.heap.size ≤ l1 ∧ h1 ≤ w'.heap.size ∧ (h0 ≤ l1 ∨ h1 ≤ l0) ∧ Own64 l0 h0 w' (.slice a0 (plP zs ys).length c0) (plP zs ys) ∧ ROwn l1 h1 w' (.slice a1 (plR zs ys).length c1) (plR zs ys) ∧ Below w.heap.size w w' := by
  by_cases h : chk [zs, ys] = 0
  · refine (implPlan_yes a a' c c' zs ys w hv hv' h).mono ?_
    rintro e w' ⟨u, v, rfl, h1, h2, h3⟩
    obtain ⟨ua, uc, rfl⟩ := h1.shape
    obtain ⟨va, vc, rfl⟩ := h2.shape
    obtain ⟨l0, h0, l1, hh1, q0, q1, q2, q3, q4, o0, o1⟩ := rows_apart h1 h2 h3.size (plP_small zs ys)
    exact ⟨ua, uc, va, vc, l0, h0, l1, hh1, rfl, q0, q1, q2, q3, q4, o0, o1, h3⟩
  · obtain ⟨f1, f2, f3⟩ := pl_no h
    refine (implPlan_no a a' c c' zs ys w hv hv' hz hy h).mono ?_
    rintro e w' ⟨rfl, h3⟩
    rw [f1, f2, f3]
    exact ⟨none, 0, none, 0, w.heap.size, w.heap.size, w.heap.size, w.heap.size, rfl, Nat.le_refl _, h3.size, Nat.le_refl _, h3.size, .inl (Nat.le_refl _), Own64.empty _ _ _ _ _, ROwn.empty _ _ _ _ _, h3⟩

set_option maxHeartbeats 1000000 in
theorem specPlan_any (a : Option Addr) (c : Nat) (zs : List Int) (a' : Option Addr) (c' : Nat) (ys : List Int) (w : World) (hv : Nts w (.slice a zs.length c) zs) (hv' : Nts w (.slice a' ys.length c') ys) (hz : zs.length ≤ 1048576) (hy : ys.length ≤ 1048576) :
    Calls Try.prog 23 #[.slice a zs.length c, .slice a' ys.length c'] w fun e w' => ∃ a0 c0 a1 c1 l0 h0 l1 h1, e = .returned (.tuple #[.slice a0 (plP zs ys).length c0, .slice a1 (plR zs ys).length c1, .int .i64 (plC zs ys)]) ∧ w.heap.size ≤ l0 ∧ h0 ≤ w'.heap.size ∧ w.heap.size ≤ l1 ∧ h1 ≤ w'.heap.size ∧ (h0 ≤ l1 ∨ h1 ≤ l0) ∧ Own64 l0 h0 w' (.slice a0 (plP zs ys).length c0) (plP zs ys) ∧ ROwn l1 h1 w' (.slice a1 (plR zs ys).length c1) (plR zs ys) ∧ Below w.heap.size w w' := by
  by_cases h : chk [zs, ys] = 0
  · have H0 : Hid (chk [zs, ys] = 0) := h
    go_enter Try.func23, Try.ntmps23
    go_wp2_with fail
    refine (l3CheckTwo_any _ _ zs ys _ hv hv' hz hy).mono ?_
    rintro e w1 ⟨rfl, hb1⟩
    rw [h]
    have hs1 := hb1.size
    clear h
    go_wp2_with fail
    refine (l3Plan_any _ _ _ _ zs ys _ (hv.below hb1) (hv'.below hb1) H0.out).mono ?_
    rintro e w2 ⟨a0, c0, a1, c1, l0, h0, l1, h1, rfl, q0, q1, q2, q3, q4, o0, o1, hb2⟩
    have hB := hb1.trans (hb2.mono hs1)
    clear hv hv' hb1 hb2
    go_wp2
    exact bodyPost_ret (v := .tuple #[.slice a0 (plP zs ys).length c0, .slice a1 (plR zs ys).length c1, .int .i64 (plC zs ys)]) (by simp [results, Try.results23, go_sem]) rfl ⟨a0, c0, a1, c1, l0, h0, l1, h1, rfl, by omega, q1, by omega, q3, q4, o0, o1, hB⟩
  · obtain ⟨f1, f2, f3⟩ := pl_no h
    have HF : Hid (plP zs ys = [] ∧ plR zs ys = [] ∧ plC zs ys = chk [zs, ys]) := ⟨f1, f2, f3⟩
    have hne : (chk [zs, ys] != 0) = true := by simpa using h
    clear f1 f2 f3
    go_enter Try.func23, Try.ntmps23
    go_wp2_with fail
    refine (l3CheckTwo_any _ _ zs ys _ hv hv' hz hy).mono ?_
    rintro e w1 ⟨rfl, hb1⟩
    clear hv hv' h
    go_wp2
    refine bodyPost_ret (v := .tuple #[.slice none 0 0, .slice none 0 0, .int .i64 (chk [zs, ys])]) (by simp [results, Try.results23, go_sem]) rfl ?_
    rw [HF.out.1, HF.out.2.1, HF.out.2.2]
    exact ⟨none, 0, none, 0, w.heap.size, w.heap.size, w.heap.size, w.heap.size, rfl, Nat.le_refl _, hb1.size, Nat.le_refl _, hb1.size, .inl (Nat.le_refl _), Own64.empty _ _ _ _ _, ROwn.empty _ _ _ _ _, hb1⟩

set_option maxHeartbeats 8000000 in
theorem plan_walk (a0 : Option Addr) (c0 : Nat) (z0 : List Int) (a1 : Option Addr) (c1 : Nat) (z1 : List Int) (w : World) (hv0 : Nts w (.slice a0 z0.length c0) z0) (hv1 : Nts w (.slice a1 z1.length c1) z1) (hl0 : z0.length ≤ 1048576) (hl1 : z1.length ≤ 1048576) :
    Calls Try.prog 7 #[.slice a0 z0.length c0, .slice a1 z1.length c1] w fun e w' => e = .returned (.bool true) ∧ Below w.heap.size w w' := by
  have hr0 := plP_length z0 z1
  have hr1 := plR_length z0 z1
  have hne0 : (plC z0 z1 != plC z0 z1) = false := by simp
  go_enter Try.func7, Try.ntmps7
  go_wp2_with fail
  refine (toInt64S_own _ z0 _ hv0 (by omega)).mono ?_
  rintro e w1 ⟨rfl, s0_1, hb1⟩
  have hbel1 := hb1
  have hs1 := hb1.size
  clear hb1
  go_wp2_with fail
  refine (toInt64S_own _ z1 _ (hv1.below hbel1) (by omega)).mono ?_
  rintro e w2 ⟨rfl, s1_2, hb2⟩
  have s0_2 := s0_1.below hb2
  have hbel2 := hbel1.trans (hb2.mono hbel1.size)
  have hs2 := hb2.size
  clear s0_1 hb2 hbel1
  go_wp2_with fail
  refine (specPlan_any _ _ z0 _ _ z1 _ s0_2.nts s1_2.nts hl0 hl1).mono ?_
  rintro e w3 ⟨Wa0, Wc0, Wa1, Wc1, Wl0, Wh0, Wl1, Wh1, rfl, Wq0, Wq1, Wq2, Wq3, Wq4, W0_3, W1_3, hb3⟩
  have s0_3 := s0_2.below hb3
  have s1_3 := s1_2.below hb3
  have hbel3 := hbel2.trans (hb3.mono hbel2.size)
  have hs3 := hb3.size
  clear s0_2 s1_2 hb3 hbel2
  clear s0_3
  clear s1_3
  go_wp2_with fail
  refine (toInt64S_own _ z0 _ (hv0.below hbel3) (by omega)).mono ?_
  rintro e w4 ⟨rfl, X0_4, hb4⟩
  have W0_4 := W0_3.below hb4
  have W1_4 := W1_3.below hb4
  have hbel4 := hbel3.trans (hb4.mono hbel3.size)
  have hs4 := hb4.size
  clear W0_3 W1_3 hb4 hbel3
  go_wp2_with fail
  refine (toInt64S_own _ z1 _ (hv1.below hbel4) (by omega)).mono ?_
  rintro e w5 ⟨rfl, X1_5, hb5⟩
  have W0_5 := W0_4.below hb5
  have W1_5 := W1_4.below hb5
  have X0_5 := X0_4.below hb5
  have hbel5 := hbel4.trans (hb5.mono hbel4.size)
  have hs5 := hb5.size
  clear W0_4 W1_4 X0_4 hb5 hbel4
  go_wp2_with fail
  refine (implPlan_any _ _ z0 _ _ z1 _ X0_5.nts X1_5.nts hl0 hl1).mono ?_
  rintro e w6 ⟨Ga0, Gc0, Ga1, Gc1, Gl0, Gh0, Gl1, Gh1, rfl, Gq0, Gq1, Gq2, Gq3, Gq4, G0_6, G1_6, hb6⟩
  have W0_6 := W0_5.below hb6
  have W1_6 := W1_5.below hb6
  have X0_6 := X0_5.below hb6
  have X1_6 := X1_5.below hb6
  have hbel6 := hbel5.trans (hb6.mono hbel5.size)
  have hs6 := hb6.size
  clear W0_5 W1_5 X0_5 X1_5 hb6 hbel5
  go_wp2_with fail
  refine (eqInt64S_own _ _ (plP z0 z1) _ G0_6.nts W0_6.nts (by omega)).mono ?_
  rintro e w7 ⟨rfl, hb7⟩
  have W0_7 := W0_6.below hb7
  have W1_7 := W1_6.below hb7
  have X0_7 := X0_6.below hb7
  have X1_7 := X1_6.below hb7
  have G0_7 := G0_6.below hb7
  have G1_7 := G1_6.below hb7
  have hbel7 := hbel6.trans (hb7.mono hbel6.size)
  have hs7 := hb7.size
  clear W0_6 W1_6 X0_6 X1_6 G0_6 G1_6 hb7 hbel6
  go_wp2_with fail
  refine (eqRunS_own _ _ (plR z0 z1) _ G1_7.read W1_7.read (by omega)).mono ?_
  rintro e w8 ⟨rfl, hb8⟩
  have W0_8 := W0_7.below hb8
  have W1_8 := W1_7.below hb8
  have X0_8 := X0_7.below hb8
  have X1_8 := X1_7.below hb8
  have G0_8 := G0_7.below hb8
  have G1_8 := G1_7.below hb8
  have hbel8 := hbel7.trans (hb8.mono hbel7.size)
  have hs8 := hb8.size
  clear W0_7 W1_7 X0_7 X1_7 G0_7 G1_7 hb8 hbel7
  go_wp2_with fail
  refine (toInt64S_own _ z0 _ (hv0.below hbel8) (by omega)).mono ?_
  rintro e w9 ⟨rfl, T_9, hb9⟩
  have W0_9 := W0_8.below hb9
  have W1_9 := W1_8.below hb9
  have X0_9 := X0_8.below hb9
  have X1_9 := X1_8.below hb9
  have G0_9 := G0_8.below hb9
  have G1_9 := G1_8.below hb9
  have hbel9 := hbel8.trans (hb9.mono hbel8.size)
  have hs9 := hb9.size
  clear W0_8 W1_8 X0_8 X1_8 G0_8 G1_8 hb9 hbel8
  go_wp2_with fail
  refine (eqInt64S_own _ _ z0 _ X0_9.nts T_9.nts (by omega)).mono ?_
  rintro e w10 ⟨rfl, hb10⟩
  have W0_10 := W0_9.below hb10
  have W1_10 := W1_9.below hb10
  have X0_10 := X0_9.below hb10
  have X1_10 := X1_9.below hb10
  have G0_10 := G0_9.below hb10
  have G1_10 := G1_9.below hb10
  have T_10 := T_9.below hb10
  have hbel10 := hbel9.trans (hb10.mono hbel9.size)
  have hs10 := hb10.size
  clear W0_9 W1_9 X0_9 X1_9 G0_9 G1_9 T_9 hb10 hbel9
  clear T_10
  go_wp2_with fail
  refine (toInt64S_own _ z1 _ (hv1.below hbel10) (by omega)).mono ?_
  rintro e w11 ⟨rfl, T_11, hb11⟩
  have W0_11 := W0_10.below hb11
  have W1_11 := W1_10.below hb11
  have X0_11 := X0_10.below hb11
  have X1_11 := X1_10.below hb11
  have G0_11 := G0_10.below hb11
  have G1_11 := G1_10.below hb11
  have hbel11 := hbel10.trans (hb11.mono hbel10.size)
  have hs11 := hb11.size
  clear W0_10 W1_10 X0_10 X1_10 G0_10 G1_10 hb11 hbel10
  go_wp2_with fail
  refine (eqInt64S_own _ _ z1 _ X1_11.nts T_11.nts (by omega)).mono ?_
  rintro e w12 ⟨rfl, hb12⟩
  have W0_12 := W0_11.below hb12
  have W1_12 := W1_11.below hb12
  have X0_12 := X0_11.below hb12
  have X1_12 := X1_11.below hb12
  have G0_12 := G0_11.below hb12
  have G1_12 := G1_11.below hb12
  have T_12 := T_11.below hb12
  have hbel12 := hbel11.trans (hb12.mono hbel11.size)
  have hs12 := hb12.size
  clear W0_11 W1_11 X0_11 X1_11 G0_11 G1_11 T_11 hb12 hbel11
  clear T_12
  go_wp2_with fail
  refine (markInt64S_any _ _ _ z0 1 _ X0_12 (by omega) (by omega)).mono ?_
  rintro e w13 ⟨rfl, -, hu13⟩
  have W0_13 := W0_12.upd hu13 (by omega)
  have W1_13 := W1_12.upd hu13 (by omega)
  have X1_13 := X1_12.upd hu13 (by omega)
  have G0_13 := G0_12.upd hu13 (by omega)
  have G1_13 := G1_12.upd hu13 (by omega)
  have hbel13 := hbel12.trans (hu13.below (by omega) (by omega))
  have hs13 := hu13.size
  clear W0_12 W1_12 X1_12 G0_12 G1_12 hu13 hbel12
  clear X0_12
  go_wp2_with fail
  refine (markInt64S_any _ _ _ z1 _ _ X1_13 (by omega) (by omega)).mono ?_
  rintro e w14 ⟨rfl, -, hu14⟩
  have W0_14 := W0_13.upd hu14 (by omega)
  have W1_14 := W1_13.upd hu14 (by omega)
  have G0_14 := G0_13.upd hu14 (by omega)
  have G1_14 := G1_13.upd hu14 (by omega)
  have hbel14 := hbel13.trans (hu14.below (by omega) (by omega))
  have hs14 := hu14.size
  clear W0_13 W1_13 G0_13 G1_13 hu14 hbel13
  clear X1_13
  go_wp2_with fail
  refine (eqInt64S_own _ _ (plP z0 z1) _ G0_14.nts W0_14.nts (by omega)).mono ?_
  rintro e w15 ⟨rfl, hb15⟩
  have W0_15 := W0_14.below hb15
  have W1_15 := W1_14.below hb15
  have G0_15 := G0_14.below hb15
  have G1_15 := G1_14.below hb15
  have hbel15 := hbel14.trans (hb15.mono hbel14.size)
  have hs15 := hb15.size
  clear W0_14 W1_14 G0_14 G1_14 hb15 hbel14
  go_wp2_with fail
  refine (eqRunS_own _ _ (plR z0 z1) _ G1_15.read W1_15.read (by omega)).mono ?_
  rintro e w16 ⟨rfl, hb16⟩
  have W0_16 := W0_15.below hb16
  have W1_16 := W1_15.below hb16
  have G0_16 := G0_15.below hb16
  have G1_16 := G1_15.below hb16
  have hbel16 := hbel15.trans (hb16.mono hbel15.size)
  have hs16 := hb16.size
  clear W0_15 W1_15 G0_15 G1_15 hb16 hbel15
  go_wp2_with fail
  refine (markInt64S_any _ _ _ (plP z0 z1) 1 _ G0_16 (by omega) (by omega)).mono ?_
  rintro e w17 ⟨rfl, M0_17, hu17⟩
  have W0_17 := W0_16.upd hu17 (by omega)
  have W1_17 := W1_16.upd hu17 (by omega)
  have G1_17 := G1_16.upd hu17 (by omega)
  have hbel17 := hbel16.trans (hu17.below (by omega) (by omega))
  have hs17 := hu17.size
  clear W0_16 W1_16 G1_16 hu17 hbel16
  clear G0_16
  go_wp2_with fail
  refine (markRunS_any _ _ _ (plR z0 z1) _ _ G1_17 (by omega) (by omega)).mono ?_
  rintro e w18 ⟨rfl, M1_18, hu18⟩
  have W0_18 := W0_17.upd hu18 (by omega)
  have W1_18 := W1_17.upd hu18 (by omega)
  have M0_18 := M0_17.upd hu18 (by omega)
  have hbel18 := hbel17.trans (hu18.below (by omega) (by omega))
  have hs18 := hu18.size
  clear W0_17 W1_17 M0_17 hu18 hbel17
  clear G1_17
  go_wp2_with fail
  refine (heldInt64S_any _ 1 (plP z0 z1).length _ M0_18.nts (by omega) (by omega)).mono ?_
  rintro e w1018 ⟨rfl, rfl⟩
  clear M0_18
  go_wp2_with fail
  refine (heldRunS_any _ _ (plR z0 z1).length _ M1_18.read (by omega) (by omega)).mono ?_
  rintro e w1019 ⟨rfl, rfl⟩
  clear M1_18
  go_wp2_with fail
  refine (toInt64S_own _ z0 _ (hv0.below hbel18) (by omega)).mono ?_
  rintro e w19 ⟨rfl, Y0_19, hb19⟩
  have W0_19 := W0_18.below hb19
  have W1_19 := W1_18.below hb19
  have hbel19 := hbel18.trans (hb19.mono hbel18.size)
  have hs19 := hb19.size
  clear W0_18 W1_18 hb19 hbel18
  go_wp2_with fail
  refine (toInt64S_own _ z1 _ (hv1.below hbel19) (by omega)).mono ?_
  rintro e w20 ⟨rfl, Y1_20, hb20⟩
  have W0_20 := W0_19.below hb20
  have W1_20 := W1_19.below hb20
  have Y0_20 := Y0_19.below hb20
  have hbel20 := hbel19.trans (hb20.mono hbel19.size)
  have hs20 := hb20.size
  clear W0_19 W1_19 Y0_19 hb20 hbel19
  go_wp2_with fail
  refine (implPlan_any _ _ z0 _ _ z1 _ Y0_20.nts Y1_20.nts hl0 hl1).mono ?_
  rintro e w21 ⟨Ha0, Hc0, Ha1, Hc1, Hl0, Hh0, Hl1, Hh1, rfl, Hq0, Hq1, Hq2, Hq3, Hq4, H0_21, H1_21, hb21⟩
  have W0_21 := W0_20.below hb21
  have W1_21 := W1_20.below hb21
  have Y0_21 := Y0_20.below hb21
  have Y1_21 := Y1_20.below hb21
  have hbel21 := hbel20.trans (hb21.mono hbel20.size)
  have hs21 := hb21.size
  clear W0_20 W1_20 Y0_20 Y1_20 hb21 hbel20
  go_wp2_with fail
  refine (eqInt64S_own _ _ (plP z0 z1) _ H0_21.nts W0_21.nts (by omega)).mono ?_
  rintro e w22 ⟨rfl, hb22⟩
  have W0_22 := W0_21.below hb22
  have W1_22 := W1_21.below hb22
  have Y0_22 := Y0_21.below hb22
  have Y1_22 := Y1_21.below hb22
  have H0_22 := H0_21.below hb22
  have H1_22 := H1_21.below hb22
  have hbel22 := hbel21.trans (hb22.mono hbel21.size)
  have hs22 := hb22.size
  clear W0_21 W1_21 Y0_21 Y1_21 H0_21 H1_21 hb22 hbel21
  go_wp2_with fail
  refine (eqRunS_own _ _ (plR z0 z1) _ H1_22.read W1_22.read (by omega)).mono ?_
  rintro e w23 ⟨rfl, hb23⟩
  have W0_23 := W0_22.below hb23
  have W1_23 := W1_22.below hb23
  have Y0_23 := Y0_22.below hb23
  have Y1_23 := Y1_22.below hb23
  have H0_23 := H0_22.below hb23
  have H1_23 := H1_22.below hb23
  have hbel23 := hbel22.trans (hb23.mono hbel22.size)
  have hs23 := hb23.size
  clear W0_22 W1_22 Y0_22 Y1_22 H0_22 H1_22 hb23 hbel22
  clear W0_23 W1_23 Y0_23 Y1_23 H0_23 H1_23
  go_wp2
  go_ret
  exact ⟨rfl, hbel23⟩

set_option maxHeartbeats 400000 in
theorem plan_all (a0 : Option Addr) (c0 : Nat) (z0 : List Int) (a1 : Option Addr) (c1 : Nat) (z1 : List Int) (w : World) (hv0 : Nts w (.slice a0 z0.length c0) z0) (hv1 : Nts w (.slice a1 z1.length c1) z1) (hm0 : z0.length ≤ 9223372036854775807) (hm1 : z1.length ≤ 9223372036854775807) :
    Calls Try.prog 7 #[.slice a0 z0.length c0, .slice a1 z1.length c1] w fun e w' => e = .returned (.bool true) ∧ Below w.heap.size w w' := by
  by_cases hl0 : z0.length ≤ 1048576
  case neg =>
    go_enter Try.func7, Try.ntmps7
    go_wp2
    go_ret
    exact ⟨rfl, Below.refl _ _⟩
  by_cases hl1 : z1.length ≤ 1048576
  case neg =>
    go_enter Try.func7, Try.ntmps7
    go_wp2
    go_ret
    exact ⟨rfl, Below.refl _ _⟩
  exact plan_walk a0 c0 z0 a1 c1 z1 w hv0 hv1 hl0 hl1
end Go.Proofs.Ythcflbidjlediaa

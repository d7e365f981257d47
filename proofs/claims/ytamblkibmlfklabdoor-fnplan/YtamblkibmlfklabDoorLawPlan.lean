import Derived.Test.YtamblkibmlfklabDoorPl2
import Derived.Test.YtamblkibmlfklabDoorPl3
namespace Go.Proofs.YtamblkibmlfklabDoor
open Go.RowKit
set_option linter.unusedVariables false

/-- two rows of different kinds lie apart -/
theorem rows_apart {base : Nat} {w : World} {a0 a1 : Option Addr} {n0 n1 c0 c1 : Nat} {zs : List Int} {rs : List (Int × Int × Int)} (h0 : Row64 base w (.slice a0 n0 c0) zs) (h1 : RRow base w (.slice a1 n1 c1) rs) (hb : base ≤ w.heap.size) (hz : ∀ i, -9223372036854775808 ≤ zs.getD i 0 ∧ zs.getD i 0 ≤ 9223372036854775807) :
    ∃ l0 h0 l1 h1, base ≤ l0 ∧ h0 ≤ w.heap.size ∧ base ≤ l1 ∧ h1 ≤ w.heap.size ∧ (h0 ≤ l1 ∨ h1 ≤ l0) ∧ Own64 l0 h0 w (.slice a0 n0 c0) zs ∧ ROwn l1 h1 w (.slice a1 n1 c1) rs := by
  have o0 := h0.own hz
  have o1 := h1.own
  rcases h0.2 with ⟨e, e'⟩ | ⟨g0, k0, u0, e, hb0, hh0, _⟩
  · have hz0 : zs = [] := List.eq_nil_of_length_eq_zero e'
    subst hz0
    simp only [Value.slice.injEq] at e
    obtain ⟨rfl, rfl, rfl⟩ := e
    exact ⟨base, base, base, w.heap.size, Nat.le_refl _, hb, Nat.le_refl _, Nat.le_refl _, .inl (Nat.le_refl _), Own64.empty _ _ _ _ _, o1⟩
  · rcases h1.2 with ⟨f, f'⟩ | ⟨g1, k1, u1, f, hb1, hh1, _⟩
    · have hz1 : rs = [] := List.eq_nil_of_length_eq_zero f'
      subst hz1
      simp only [Value.slice.injEq] at f
      obtain ⟨rfl, rfl, rfl⟩ := f
      exact ⟨base, w.heap.size, base, base, Nat.le_refl _, Nat.le_refl _, Nat.le_refl _, hb, .inr (Nat.le_refl _), o0, ROwn.empty _ _ _ _ _⟩
    · have hne : g0 ≠ g1 := fun e => by
        subst e
        have := hh0.symm.trans hh1
        simp at this
      have hl0 : g0 < w.heap.size := (Array.getElem?_eq_some_iff.1 hh0).1
      have hl1 : g1 < w.heap.size := (Array.getElem?_eq_some_iff.1 hh1).1
      simp only [Value.slice.injEq] at e f
      obtain ⟨rfl, rfl, rfl⟩ := e
      obtain ⟨rfl, rfl, rfl⟩ := f
      refine ⟨g0, g0 + 1, g1, g1 + 1, hb0, by omega, hb1, by omega, by omega, ?_, ?_⟩
      · obtain ⟨_, _, he, hs⟩ := o0.shape
        refine ⟨hz, _, _, rfl, fun hp => ?_⟩
        simp only [Value.slice.injEq, true_and] at he
        obtain ⟨rfl, rfl⟩ := he
        obtain ⟨_, _, he, _, _, q3, q4⟩ := hs hp
        simp only [Option.some.injEq, Addr.mk.injEq, and_true] at he
        obtain ⟨rfl, rfl⟩ := he
        exact ⟨g0, 0, rfl, Nat.le_refl _, Nat.lt_succ_self _, q3, q4⟩
      · obtain ⟨_, _, he, hs⟩ := o1
        refine ⟨_, _, rfl, fun hp => ?_⟩
        simp only [Value.slice.injEq, true_and] at he
        obtain ⟨rfl, rfl⟩ := he
        obtain ⟨_, _, he, _, _, q3, q4⟩ := hs hp
        simp only [Option.some.injEq, Addr.mk.injEq, and_true] at he
        obtain ⟨rfl, rfl⟩ := he
        exact ⟨g1, 0, rfl, Nat.le_refl _, Nat.lt_succ_self _, q3, q4⟩

theorem plP_small (zs ys : List Int) (i : Nat) : -9223372036854775808 ≤ (plP zs ys).getD i 0 ∧ (plP zs ys).getD i 0 ≤ 9223372036854775807 := by
  by_cases h : chk [zs, ys] = 0
  · have hl := (chk_ok (chk_two_ok h).2.1).1
    by_cases hi : i < (plF zs ys).length
    · have := (plF zs ys)[i].2
      simp only [plP, List.getD_eq_getElem?_getD, List.getElem?_map, List.getElem?_eq_getElem hi, Option.map_some, Option.getD_some]
      omega
    · simp [plP, List.getElem?_eq_none (Nat.le_of_not_lt hi)]
  · rw [(pl_no h).1]; simp

theorem implPlan_any (a : Option Addr) (c : Nat) (zs : List Int) (a' : Option Addr) (c' : Nat) (ys : List Int) (w : World) (hv : Nts w (.slice a zs.length c) zs) (hv' : Nts w (.slice a' ys.length c') ys) (hz : zs.length ≤ 1048576) (hy : ys.length ≤ 1048576) :
    Calls Tryd.prog 6 #[.slice a zs.length c, .slice a' ys.length c'] w fun e w' => ∃ a0 c0 a1 c1 l0 h0 l1 h1, e = .returned (.tuple #[.slice a0 (plP zs ys).length c0, .slice a1 (plR zs ys).length c1, .int .i64 (plC zs ys)]) ∧ w.heap.size ≤ l0 ∧ h0 ≤ w'.heap.size ∧ w.heap.size ≤ l1 ∧ h1 ≤ w'.heap.size ∧ (h0 ≤ l1 ∨ h1 ≤ l0) ∧ Own64 l0 h0 w' (.slice a0 (plP zs ys).length c0) (plP zs ys) ∧ ROwn l1 h1 w' (.slice a1 (plR zs ys).length c1) (plR zs ys) ∧ Below w.heap.size w w' := by
  by_cases h : chk [zs, ys] = 0
  · refine (implPlan_yes a a' c c' zs ys w hv hv' h).mono ?_
    rintro e w' ⟨u, v, rfl, h1, h2, h3⟩
    obtain ⟨ua, uc, rfl⟩ := h1.shape
    obtain ⟨va, vc, rfl⟩ := h2.shape
    obtain ⟨l0, h0, l1, hh1, q0, q1, q2, q3, q4, o0, o1⟩ := rows_apart h1 h2 h3.size (plP_small zs ys)
    exact ⟨ua, uc, va, vc, l0, h0, l1, hh1, rfl, q0, q1, q2, q3, q4, o0, o1, h3⟩
  · obtain ⟨f1, f2, f3⟩ := pl_no h
    refine (implPlan_no a a' c c' zs ys w hv hv' hz hy h).mono ?_
    rintro e w' ⟨rfl, h3⟩
    rw [f1, f2, f3]
    exact ⟨none, 0, none, 0, w.heap.size, w.heap.size, w.heap.size, w.heap.size, rfl, Nat.le_refl _, h3.size, Nat.le_refl _, h3.size, .inl (Nat.le_refl _), Own64.empty _ _ _ _ _, ROwn.empty _ _ _ _ _, h3⟩

set_option maxHeartbeats 1000000 in
theorem specPlan_any (a : Option Addr) (c : Nat) (zs : List Int) (a' : Option Addr) (c' : Nat) (ys : List Int) (w : World) (hv : Nts w (.slice a zs.length c) zs) (hv' : Nts w (.slice a' ys.length c') ys) (hz : zs.length ≤ 1048576) (hy : ys.length ≤ 1048576) :
    Calls Tryd.prog 5 #[.slice a zs.length c, .slice a' ys.length c'] w fun e w' => ∃ a0 c0 a1 c1 l0 h0 l1 h1, e = .returned (.tuple #[.slice a0 (plP zs ys).length c0, .slice a1 (plR zs ys).length c1, .int .i64 (plC zs ys)]) ∧ w.heap.size ≤ l0 ∧ h0 ≤ w'.heap.size ∧ w.heap.size ≤ l1 ∧ h1 ≤ w'.heap.size ∧ (h0 ≤ l1 ∨ h1 ≤ l0) ∧ Own64 l0 h0 w' (.slice a0 (plP zs ys).length c0) (plP zs ys) ∧ ROwn l1 h1 w' (.slice a1 (plR zs ys).length c1) (plR zs ys) ∧ Below w.heap.size w w' := by
  by_cases h : chk [zs, ys] = 0
  · have H0 : Hid (chk [zs, ys] = 0) := h
    go_enter Tryd.func5, Tryd.ntmps5
    go_wp2_with fail
    refine (l3CheckTwo_any _ _ zs ys _ hv hv' hz hy).mono ?_
    rintro e w1 ⟨rfl, hb1⟩
    rw [h]
    have hs1 := hb1.size
    clear h
    go_wp2_with fail
    refine (l3Plan_any _ _ _ _ zs ys _ (hv.below hb1) (hv'.below hb1) H0.out).mono ?_
    rintro e w2 ⟨a0, c0, a1, c1, l0, h0, l1, h1, rfl, q0, q1, q2, q3, q4, o0, o1, hb2⟩
    have hB := hb1.trans (hb2.mono hs1)
    clear hv hv' hb1 hb2
    go_wp2
    exact bodyPost_ret (v := .tuple #[.slice a0 (plP zs ys).length c0, .slice a1 (plR zs ys).length c1, .int .i64 (plC zs ys)]) (by simp [results, Tryd.results5, go_sem]) rfl ⟨a0, c0, a1, c1, l0, h0, l1, h1, rfl, by omega, q1, by omega, q3, q4, o0, o1, hB⟩
  · obtain ⟨f1, f2, f3⟩ := pl_no h
    have HF : Hid (plP zs ys = [] ∧ plR zs ys = [] ∧ plC zs ys = chk [zs, ys]) := ⟨f1, f2, f3⟩
    have hne : (chk [zs, ys] != 0) = true := by simpa using h
    clear f1 f2 f3
    go_enter Tryd.func5, Tryd.ntmps5
    go_wp2_with fail
    refine (l3CheckTwo_any _ _ zs ys _ hv hv' hz hy).mono ?_
    rintro e w1 ⟨rfl, hb1⟩
    clear hv hv' h
    go_wp2
    refine bodyPost_ret (v := .tuple #[.slice none 0 0, .slice none 0 0, .int .i64 (chk [zs, ys])]) (by simp [results, Tryd.results5, go_sem]) rfl ?_
    rw [HF.out.1, HF.out.2.1, HF.out.2.2]
    exact ⟨none, 0, none, 0, w.heap.size, w.heap.size, w.heap.size, w.heap.size, rfl, Nat.le_refl _, hb1.size, Nat.le_refl _, hb1.size, .inl (Nat.le_refl _), Own64.empty _ _ _ _ _, ROwn.empty _ _ _ _ _, hb1⟩

end Go.Proofs.YtamblkibmlfklabDoor

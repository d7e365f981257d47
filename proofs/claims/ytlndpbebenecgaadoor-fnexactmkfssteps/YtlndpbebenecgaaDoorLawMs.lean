import Derived.Test.YtlndpbebenecgaaDoorMs9
namespace Go.Proofs.YtlndpbebenecgaaDoor
open Go.RowKit

set_option maxRecDepth 100000 in
set_option maxHeartbeats 4000000 in
theorem mkfsSteps_gen (ss : List (Int × Int × List Int)) (c n : Int) (hsm : SSmall ss) (hbd : (1 : Int) + placeS ss ≤ 9223372036854775806)
    (hspec : ∀ w, Calls Tryd.prog 8 #[.int .i64 n] w fun e w' => ∃ a cp, e = .returned (.tuple #[.slice a ss.length cp, .int .i64 c]) ∧ SRead w' (.slice a ss.length cp) ss ∧ Below w.heap.size w w')
    (himpl : ∀ w, Calls Tryd.prog 9 #[.int .i64 n] w fun e w' => ∃ a cp, e = .returned (.tuple #[.slice a ss.length cp, .int .i64 c]) ∧ SOwn w.heap.size w'.heap.size w' (.slice a ss.length cp) ss ∧ Below w.heap.size w w') (w : World) :
    Calls Tryd.prog 3 #[.int .i64 n] w fun e w' => e = .returned (.bool true) ∧ Below w.heap.size w w' := by
  have hpn := placeS_nonneg ss
  have hln : ss.length ≤ 281474976710656 := hsm.1
  have n1 : ¬ (1 + placeS ss < 0) := by omega
  have n2 : ((1 + placeS ss) != (1 + placeS ss)) = false := by simp
  have n3 : (c != c) = false := by simp
  have HS : Hid _ := hspec
  have HI : Hid _ := himpl
  clear hspec himpl
  go_enter Tryd.func3, Tryd.ntmps3
  go_wp2_with fail
  refine (HS.out _).mono ?_
  rintro e w1 ⟨a1, c1, rfl, hr1, hb1⟩
  go_wp2_with fail
  refine (HI.out _).mono ?_
  rintro e w2 ⟨a2, c2, rfl, hO, hb2⟩
  go_wp2_with fail
  refine (eqStepS_same _ _ ss _ hO.read (hr1.below hb2) hsm).mono ?_
  rintro e w3 ⟨rfl, hb3⟩
  have hO3 := hO.below hb3
  have hb23 : Below w1.heap.size w1 w3 := hb2.trans (hb3.mono hb2.size)
  have hs2 := hb2.size
  have hs3 := hb3.size
  clear hO hb2 hb3
  go_wp2_with fail
  refine (markStepS_held _ _ _ ss 1 _ hO3 (by omega) hbd hln).mono ?_
  rintro e w4 ⟨rfl, hM, hu4⟩
  have hb4 : Below w1.heap.size w1 w4 := hb23.trans (hu4.below (Nat.le_refl _) (by omega))
  clear hO3 hu4 hb23
  go_wp2_with fail
  refine (heldStepS_any _ ss 1 _ hM (by omega) hbd hln).mono ?_
  rintro e w5 ⟨rfl, rfl⟩
  clear hM
  go_wp2_with fail
  refine (HI.out _).mono ?_
  rintro e w6 ⟨a6, c6, rfl, hO6, hb6⟩
  have hb16 : Below w1.heap.size w1 w6 := hb4.trans (hb6.mono hb4.size)
  clear hb4 hb6
  go_wp2_with fail
  refine (eqStepS_same _ _ ss _ hO6.read (hr1.below hb16) hsm).mono ?_
  rintro e w7 ⟨rfl, hb7⟩
  have hb : Below w.heap.size w w7 := (hb1.trans (hb16.mono hb1.size)).trans (hb7.mono (Nat.le_trans hb1.size hb16.size))
  clear hO6 hr1 hb16 hb7 hb1
  go_wp2
  go_ret
  exact ⟨rfl, hb⟩

theorem SRead.form {w : World} {v : Value} {ss : List (Int × Int × List Int)} (h : SRead w v ss) : ∃ a c, v = .slice a ss.length c := by
  obtain ⟨a, c, e, _⟩ := h; exact ⟨a, c, e⟩
theorem spec_form {w w' : World} {e : Ending} {ss : List (Int × Int × List Int)} (h : ∃ v, e = .returned (.tuple #[v, .int .i64 0]) ∧ SRead w' v ss ∧ Below w.heap.size w w') : ∃ a cp, e = .returned (.tuple #[.slice a ss.length cp, .int .i64 0]) ∧ SRead w' (.slice a ss.length cp) ss ∧ Below w.heap.size w w' := by
  obtain ⟨v, e1, hr, hb⟩ := h
  obtain ⟨a, c, rfl⟩ := hr.form
  exact ⟨a, c, e1, hr, hb⟩
theorem impl_form {w w' : World} {e : Ending} {ss : List (Int × Int × List Int)} (h : ∃ v, e = .returned (.tuple #[v, .int .i64 0]) ∧ SOwn w.heap.size w'.heap.size w' v ss ∧ Below w.heap.size w w') : ∃ a cp, e = .returned (.tuple #[.slice a ss.length cp, .int .i64 0]) ∧ SOwn w.heap.size w'.heap.size w' (.slice a ss.length cp) ss ∧ Below w.heap.size w w' := by
  obtain ⟨v, e1, hr, hb⟩ := h
  obtain ⟨a, c, rfl⟩ := hr.read.form
  exact ⟨a, c, e1, hr, hb⟩

theorem mkfsSteps_yes (m : Nat) (hm : 8 ≤ m ∧ m ≤ 512) (w : World) :
    Calls Tryd.prog 3 #[.int .i64 m] w fun e w' => e = .returned (.bool true) ∧ Below w.heap.size w w' := by
  have hbd : (1 : Int) + placeS (mkS m) ≤ 9223372036854775806 := by rw [mkS_place]; omega
  have hsp : ∀ w, Calls Tryd.prog 8 #[.int .i64 m] w fun e w' => ∃ v, e = .returned (.tuple #[v, .int .i64 0]) ∧ SRead w' v (mkS m) ∧ Below w.heap.size w w' := fun w =>
    (specMkfs_yes m hm w).mono fun e w' ⟨v, e1, hP, hb⟩ => ⟨v, e1, hP.read, hb⟩
  have him : ∀ w, Calls Tryd.prog 9 #[.int .i64 m] w fun e w' => ∃ v, e = .returned (.tuple #[v, .int .i64 0]) ∧ SOwn w.heap.size w'.heap.size w' v (mkS m) ∧ Below w.heap.size w w' := fun w =>
    (implMkfs_yes m hm w).mono fun e w' ⟨v, _, _, _, _, _, _, _, _, e1, hR, hb⟩ => ⟨v, e1, hR.own, hb⟩
  have hsm := mkS_small m
  generalize mkS m = ss at *
  exact mkfsSteps_gen ss 0 m hsm hbd (fun w => (hsp w).mono fun e w' h => spec_form h) (fun w => (him w).mono fun e w' h => impl_form h) w

theorem mkfsSteps_no (n : Int) (hn : ¬ (8 ≤ n ∧ n ≤ 512)) (w : World) :
    Calls Tryd.prog 3 #[.int .i64 n] w fun e w' => e = .returned (.bool true) ∧ Below w.heap.size w w' :=
  mkfsSteps_gen [] 1 n ⟨by simp, by simp⟩ (by simp [placeS, dataS]) (fun w => (specMkfs_no n hn w).mono fun e w' ⟨e1, e2⟩ => ⟨none, 0, e1, SRead.empty _ _ _, e2 ▸ Below.refl _ _⟩)
    (fun w => (implMkfs_no n hn w).mono fun e w' ⟨e1, e2⟩ => ⟨none, 0, e1, SOwn.empty _ _ _ _ _, e2 ▸ Below.refl _ _⟩) w

theorem mkfsSteps_all (n : Int) (w : World) :
    Calls Tryd.prog 3 #[.int .i64 n] w fun e w' => e = .returned (.bool true) ∧ Below w.heap.size w w' := by
  by_cases hn : 8 ≤ n ∧ n ≤ 512
  · obtain ⟨m, rfl⟩ : ∃ m : Nat, n = (m : Int) := ⟨n.toNat, by omega⟩
    exact mkfsSteps_yes m (by omega) w
  · exact mkfsSteps_no n hn w

end Go.Proofs.YtlndpbebenecgaaDoor

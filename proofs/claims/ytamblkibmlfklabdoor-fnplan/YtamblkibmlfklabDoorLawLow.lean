import Derived.Test.YtamblkibmlfklabDoorFr3
namespace Go.Proofs.YtamblkibmlfklabDoor
open Go.RowKit

theorem low_cases (zs ys : List Int) : (frs zs ys zs.length zs.length = [] ∧ low zs ys = 0) ∨ ∃ x t, frs zs ys zs.length zs.length = x :: t ∧ low zs ys = (x.1 : Int) := by
  unfold low
  cases h : frs zs ys zs.length zs.length with
  | nil => exact .inl ⟨rfl, rfl⟩
  | cons x t => exact .inr ⟨x, t, rfl, rfl⟩

/-- LowestFree's two answers -/
def lowV (zs ys : List Int) : Int := if chk [zs, ys] = 0 then low zs ys else 0
def lowC (zs ys : List Int) : Int := if chk [zs, ys] = 0 then (if low zs ys = 0 then 7 else 0) else chk [zs, ys]

set_option maxHeartbeats 1000000 in
theorem implLowest_any (a : Option Addr) (c : Nat) (zs : List Int) (a' : Option Addr) (c' : Nat) (ys : List Int) (w : World) (hv : Nts w (.slice a zs.length c) zs) (hv' : Nts w (.slice a' ys.length c') ys) (hz : zs.length ≤ 1048576) (hy : ys.length ≤ 1048576) :
    Calls Tryd.prog 12 #[.slice a zs.length c, .slice a' ys.length c'] w fun e w' => e = .returned (.tuple #[.int .i64 (lowV zs ys), .int .i64 (lowC zs ys)]) ∧ Below w.heap.size w w' := by
  have hb1 := belowA w (.cells #[.slice a zs.length c, .slice a' ys.length c'] 23)
  by_cases h : chk [zs, ys] = 0
  · obtain ⟨hl, hc1, hc2⟩ := chk_two_ok h
    have hz := (chk_ok hc1).1
    have HV : Hid (lowV zs ys = low zs ys) := if_pos h
    have HC : Hid (lowC zs ys = if low zs ys = 0 then 7 else 0) := if_pos h
    have HL : Hid (ys.length = zs.length) := hl.symm
    clear hc1 hc2 hl
    go_enter Tryd.func12, Tryd.ntmps12
    go_wp2_with fail
    refine (checkCounts_any _ [zs, ys] _ (LRd.two hv hv' _ _ rfl) (by simp) (by simp) (two_small (by omega) (by omega))).mono ?_
    rintro e w1 ⟨rfl, rfl⟩
    rw [h]
    go_wp2_with fail
    refine (lowestFree_any _ _ _ _ zs ys HL.out (by omega) (by omega) _ (hv.below hb1) (hv'.below hb1)).mono ?_
    rintro e w2 ⟨rfl, hb2⟩
    have hB := hb1.trans (hb2.mono (by simp))
    clear hv hv' hb1 hb2 h
    rcases low_cases zs ys with ⟨-, h1⟩ | ⟨x, t, -, h1⟩
    · rw [h1] at HV HC ⊢
      go_wp2
      exact bodyPost_ret (v := .tuple #[.int .i64 0, .int .i64 7]) (by simp [results, Tryd.results12, go_sem]) rfl ⟨by rw [HV.out, HC.out]; rfl, hB⟩
    · have hx := x.2.1
      have hx2 := x.2.2
      rw [h1] at HV HC ⊢
      have HC2 : Hid (lowC zs ys = 0) := by rw [HC.out, if_neg (by omega)]; rfl
      have hne : ((x.1 : Int) == 0) = false := by simp; omega
      generalize x.1 = y at *
      go_wp2
      exact bodyPost_ret (v := .tuple #[.int .i64 y, .int .i64 0]) (by simp [results, Tryd.results12, go_sem]) rfl ⟨by rw [HV.out, HC2.out], hB⟩
  · have HV : Hid (lowV zs ys = 0) := if_neg h
    have HC : Hid (lowC zs ys = chk [zs, ys]) := if_neg h
    have hne : (chk [zs, ys] != 0) = true := by simpa using h
    go_enter Tryd.func12, Tryd.ntmps12
    go_wp2_with fail
    refine (checkCounts_any _ [zs, ys] _ (LRd.two hv hv' _ _ rfl) (by simp) (by simp) (two_small hz hy)).mono ?_
    rintro e w1 ⟨rfl, rfl⟩
    clear hv hv' h
    go_wp2
    exact bodyPost_ret (v := .tuple #[.int .i64 0, .int .i64 (chk [zs, ys])]) (by simp [results, Tryd.results12, go_sem]) rfl ⟨by rw [HV.out, HC.out], hb1⟩

end Go.Proofs.YtamblkibmlfklabDoor

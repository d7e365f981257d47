import Derived.Test.YtamblkibmlfklabDoorCls2
namespace Go.Proofs.YtamblkibmlfklabDoor
open Go.RowKit

/-- Classify's list -/
def clA (zs ys : List Int) : List Int := if chk [zs, ys] = 0 then clsL zs ys zs.length else []

theorem Own64.form {lo hi : Nat} {w : World} {v : Value} {zs : List Int} (h : Own64 lo hi w v zs) : ∃ a cap, v = .slice a zs.length cap := by
  obtain ⟨a, cap, hv, _⟩ := h.shape
  exact ⟨a, cap, hv⟩

theorem clA_length (zs ys : List Int) : (clA zs ys).length ≤ 512 := by
  unfold clA
  split
  · rename_i h
    have := (chk_ok (chk_two_ok h).2.1).1
    rw [clsL_length]; omega
  · simp

theorem implClassify_any (a : Option Addr) (c : Nat) (zs : List Int) (a' : Option Addr) (c' : Nat) (ys : List Int) (w : World) (hv : Nts w (.slice a zs.length c) zs) (hv' : Nts w (.slice a' ys.length c') ys) (hz : zs.length ≤ 1048576) (hy : ys.length ≤ 1048576) :
    Calls Tryd.prog 10 #[.slice a zs.length c, .slice a' ys.length c'] w fun e w' => ∃ ua uc, e = .returned (.tuple #[.slice ua (clA zs ys).length uc, .int .i64 (chk [zs, ys])]) ∧ Own64 w.heap.size w'.heap.size w' (.slice ua (clA zs ys).length uc) (clA zs ys) ∧ Below w.heap.size w w' := by
  by_cases h : chk [zs, ys] = 0
  · have e1 : clA zs ys = clsL zs ys zs.length := if_pos h
    refine (implClassify_yes a a' c c' zs ys w hv hv' h).mono ?_
    rintro e w' ⟨u, rfl, h1, h2⟩
    obtain ⟨ua, uc, rfl⟩ := h1.form
    rw [e1, h]
    exact ⟨ua, uc, rfl, h1, h2⟩
  · have e1 : clA zs ys = [] := if_neg h
    refine (implClassify_no a a' c c' zs ys w hv hv' hz hy h).mono ?_
    rintro e w' ⟨rfl, h2⟩
    rw [e1]
    exact ⟨none, 0, rfl, Own64.empty _ _ _ _ _, h2⟩

end Go.Proofs.YtamblkibmlfklabDoor

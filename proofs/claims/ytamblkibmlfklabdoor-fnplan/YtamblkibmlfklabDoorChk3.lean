import Derived.Test.YtamblkibmlfklabDoorChk2
import Derived.Test.YtamblkibmlfklabDoorCt3
namespace Go.Proofs.YtamblkibmlfklabDoor
open Go.RowKit

theorem chk_cases (zs : List Int) : chk [zs] = 0 ∨ chk [zs] = 1 ∨ chk [zs] = 2 ∨ chk [zs] = 5 := by
  rw [chk_one]
  by_cases h1 : inB zs.length 8 512 = false
  · rw [if_pos h1]; simp
  · rw [if_neg h1]
    cases h2 : badNum zs <;> cases h3 : badHd zs <;> simp

theorem chk_two_ok {a b : List Int} (h : chk [a, b] = 0) : a.length = b.length ∧ chk [a] = 0 ∧ chk [b] = 0 := by
  by_cases hl : a.length = b.length
  · rw [chk_two a b hl] at h
    rcases chk_cases a with h1 | h1 | h1 | h1 <;> rcases chk_cases b with h2 | h2 | h2 | h2 <;> simp [h1, h2] at h ⊢
    exact hl
  · rw [chk_apart a b hl] at h; omega

theorem Nts.drewN {w : World} {v : Value} {zs : List Int} (h : Nts w v zs) (n : Nat) : Nts (w.drewN n) v zs := h.kept fun _ _ _ => rfl

set_option maxHeartbeats 1000000 in
theorem l3CheckTwo_any (v v' : Value) (zs ys : List Int) (w : World) (hv : Nts w v zs) (hv' : Nts w v' ys) (hl : zs.length ≤ 1048576) (hl' : ys.length ≤ 1048576) :
    Calls Tryd.prog 16 #[v, v'] w fun e w' => e = .returned (.int .i64 (chk [zs, ys])) ∧ Below w.heap.size w w' := by
  have hs1 := hv.shape
  have hs2 := hv'.shape
  obtain ⟨a, cap, rfl, -⟩ := hs1
  obtain ⟨a', cap', rfl, -⟩ := hs2
  by_cases he : zs.length = ys.length
  · have hne : ((zs.length : Int) != (ys.length : Int)) = false := by simp [he]
    have HC : Hid (chk [zs, ys] = if chk [zs] = 1 ∨ chk [ys] = 1 then 1 else if chk [zs] = 2 ∨ chk [ys] = 2 then 2 else if chk [zs] ≠ 0 then chk [zs] else chk [ys]) := chk_two zs ys he
    clear he
    go_enter Tryd.func16, Tryd.ntmps16
    go_wp2_with fail
    refine (l3Check_any _ zs _ hv hl).mono ?_
    rintro e w1 ⟨rfl, n, rfl⟩
    go_wp2_with fail
    refine (l3Check_any _ ys _ (hv'.drewN n) hl').mono ?_
    rintro e w2 ⟨rfl, m, hw2⟩
    have hbel : Below w.heap.size w w2 := by rw [hw2]; exact below_drewN (below_drewN (Below.refl _ _) n) m
    clear hw2
    rcases chk_cases zs with h1 | h1 | h1 | h1 <;> rcases chk_cases ys with h2 | h2 | h2 | h2 <;> rw [h1, h2] at HC ⊢ <;>
      (clear hv hv' h1 h2; go_wp2; go_ret; exact ⟨by rw [HC.out]; rfl, hbel⟩)
  · have hne : ((zs.length : Int) != (ys.length : Int)) = true := by simp; omega
    have HC : Hid (chk [zs, ys] = 1) := chk_apart zs ys he
    clear he hv hv'
    go_enter Tryd.func16, Tryd.ntmps16
    go_wp2
    go_ret
    exact ⟨by rw [HC.out]; rfl, Below.refl _ _⟩

/-- the row of two lists that a call of checkCounts gets -/
theorem LRd.two {w : World} {a a' : Option Addr} {c c' : Nat} {zs ys : List Int} (h : Nts w (.slice a zs.length c) zs) (h' : Nts w (.slice a' ys.length c') ys) (t : TypeId) (g : Nat) (hg : g = w.heap.size) :
    LRd (w.alloc (.cells #[.slice a zs.length c, .slice a' ys.length c'] t)) (.slice (some ⟨g, 0, none⟩) 2 2) [zs, ys] := by
  subst hg
  refine ⟨_, 0, 2, rfl, fun i hi => ?_⟩
  match i, hi with
  | 0, _ => exact ⟨a, c, World.cell?_alloc_at _ _ _ _ rfl, h.alloc _⟩
  | 1, _ => exact ⟨a', c', World.cell?_alloc_at _ _ _ _ rfl, h'.alloc _⟩
theorem LRd.one {w : World} {a : Option Addr} {c : Nat} {zs : List Int} (h : Nts w (.slice a zs.length c) zs) (t : TypeId) (g : Nat) (hg : g = w.heap.size) :
    LRd (w.alloc (.cells #[.slice a zs.length c] t)) (.slice (some ⟨g, 0, none⟩) 1 1) [zs] := by
  subst hg
  refine ⟨_, 0, 1, rfl, fun i hi => ?_⟩
  match i, hi with
  | 0, _ => exact ⟨a, c, World.cell?_alloc_at _ _ _ _ rfl, h.alloc _⟩
theorem two_small {zs ys : List Int} (h : zs.length ≤ 1048576) (h' : ys.length ≤ 1048576) (i : Nat) : (([zs, ys] : List (List Int)).getD i []).length ≤ 1048576 := by
  match i with
  | 0 => exact h
  | 1 => exact h'
  | i + 2 => simp
theorem one_small {zs : List Int} (h : zs.length ≤ 1048576) (i : Nat) : (([zs] : List (List Int)).getD i []).length ≤ 1048576 := by
  match i with
  | 0 => exact h
  | i + 1 => simp
end Go.Proofs.YtamblkibmlfklabDoor

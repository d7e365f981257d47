import Derived.Test.YtamblkibmlfklabDoorDr6
import Derived.Test.YtamblkibmlfklabDoorPlM2
import Derived.Test.YtamblkibmlfklabDoorLawCls
import Derived.Test.YtamblkibmlfklabDoorLawRuns
namespace Go.Proofs.YtamblkibmlfklabDoor
open Go.RowKit
set_option linter.unusedVariables false

theorem Nts.form {w : World} {v : Value} {zs : List Int} (h : Nts w v zs) : ∃ a cap, v = .slice a zs.length cap := by
  obtain ⟨a, cap, hv, _⟩ := h.shape
  exact ⟨a, cap, hv⟩
theorem chk_two_cases (a b : List Int) : chk [a, b] = 0 ∨ chk [a, b] = 1 ∨ chk [a, b] = 2 ∨ chk [a, b] = 5 := by
  by_cases hl : a.length = b.length
  · rw [chk_two a b hl]
    rcases chk_cases a with h1 | h1 | h1 | h1 <;> rcases chk_cases b with h2 | h2 | h2 | h2 <;> simp [h1, h2]
  · rw [chk_apart a b hl]; simp

theorem runsOf_ok {zs : List Int} (h : CtsOk zs) {n : Nat} (hn : zs.length = n) (a : Option Addr) (c : Nat) (w : World) (hv : Nts w (.slice a n c) zs) :
    Calls Tryd.prog 8 #[.slice a n c] w fun e w' => ∃ ua uc, e = .returned (.tuple #[.slice ua (rns zs n).length uc, .int .i64 0]) ∧ RRead w' (.slice ua (rns zs n).length uc) (rns zs n) ∧ Below w.heap.size w w' := by
  subst hn
  have hh := h.hi
  refine (implRunsOf_any a c zs w hv (by omega)).mono ?_
  rintro e w' ⟨ua, uc, rfl, h1, h2⟩
  have e1 : rnA zs = rns zs zs.length := if_pos (cts_chk h)
  rw [e1] at h1 ⊢
  exact ⟨ua, uc, by rw [cts_chk h], h1.read, h2⟩
theorem counts_ok {w : World} {adr : Nat → Addr} (hL : Laid w adr) {zs : List Int} (h : CtsOk zs) (a : Option Addr) (c : Nat) (hv : RRead w (.slice a (rns zs zs.length).length c) (rns zs zs.length)) :
    Calls Tryd.prog 9 #[.int .i64 zs.length, .slice a (rns zs zs.length).length c] w fun e w' => ∃ ua uc, e = .returned (.tuple #[.slice ua zs.length uc, .int .i64 0]) ∧ Nts w' (.slice ua zs.length uc) zs ∧ Below w.heap.size w w' := by
  have hl := h.lo
  have hh := h.hi
  have hrl := rns_length zs zs.length
  refine (implCounts_in zs.length a c _ w hL (by omega) hv (by omega)).mono ?_
  rintro e w' ⟨⟨u, rfl, h1⟩, h2⟩
  obtain ⟨e1, e2⟩ := counts_back h
  rw [e2] at h1
  obtain ⟨ua, uc, rfl⟩ := h1.nts.form
  exact ⟨ua, uc, by rw [e1], h1.nts, h2⟩
theorem classify_ok {zs ys : List Int} (h1 : CtsOk zs) (h2 : CtsOk ys) {n : Nat} (hz : zs.length = n) (hy : ys.length = n) (a a' : Option Addr) (c c' : Nat) (w : World) (hv : Nts w (.slice a n c) zs) (hv' : Nts w (.slice a' n c') ys) :
    Calls Tryd.prog 10 #[.slice a n c, .slice a' n c'] w fun e w' => ∃ ua uc, e = .returned (.tuple #[.slice ua n uc, .int .i64 0]) ∧ Nts w' (.slice ua n uc) (clsL zs ys n) ∧ Below w.heap.size w w' := by
  subst hz
  have hh := h1.hi
  have hv2 : Nts w (.slice a' ys.length c') ys := by rw [hy]; exact hv'
  rw [show (Value.slice a' zs.length c') = .slice a' ys.length c' by rw [hy]]
  refine (implClassify_any a c zs a' c' ys w hv hv2 (by omega) (by omega)).mono ?_
  rintro e w' ⟨ua, uc, rfl, q1, q2⟩
  have hck := chk_two_mk h1 h2 hy.symm
  have e1 : clA zs ys = clsL zs ys zs.length := if_pos hck
  rw [e1, clsL_length] at q1
  exact ⟨ua, uc, by rw [e1, clsL_length, hck], q1.nts, q2⟩
theorem lowest_ok {zs ys : List Int} (h1 : CtsOk zs) (h2 : CtsOk ys) {n : Nat} (hz : zs.length = n) (hy : ys.length = n) {k : Nat} (hk : k < (frs zs ys zs.length zs.length).length) (a a' : Option Addr) (c c' : Nat) (w : World) (hv : Nts w (.slice a n c) (ones zs ((frs zs ys zs.length zs.length).take k))) (hv' : Nts w (.slice a' n c') ys) :
    Calls Tryd.prog 12 #[.slice a n c, .slice a' n c'] w fun e w' => e = .returned (.tuple #[.int .i64 ((frs zs ys zs.length zs.length)[k].1 : Nat), .int .i64 0]) ∧ Below w.heap.size w w' := by
  have hol : (ones zs ((frs zs ys zs.length zs.length).take k)).length = n := by rw [ones_length, hz]
  have hh := h1.hi
  have hva : Nts w (.slice a (ones zs ((frs zs ys zs.length zs.length).take k)).length c) (ones zs ((frs zs ys zs.length zs.length).take k)) := by rw [hol]; exact hv
  have hvb : Nts w (.slice a' ys.length c') ys := by rw [hy]; exact hv'
  rw [show (Value.slice a n c) = .slice a (ones zs ((frs zs ys zs.length zs.length).take k)).length c by rw [hol], show (Value.slice a' n c') = .slice a' ys.length c' by rw [hy]]
  refine (implLowest_any a c _ a' c' ys w hva hvb (by omega) (by omega)).mono ?_
  rintro e w' ⟨rfl, q⟩
  have hck := chk_two_mk (h1.ones ((frs zs ys zs.length zs.length).take k)) h2 (by rw [hol, hy])
  have hlow := low_ones hk
  have h2b := (frs zs ys zs.length zs.length)[k].2.1
  refine ⟨?_, q⟩
  unfold lowV lowC
  rw [if_pos hck, if_pos hck, hlow, if_neg (by omega)]
theorem lRuns_len {rs : List R3} {n : Nat} (hn : rs.length = n) (a a' : Option Addr) (c c' : Nat) (w : World) (hv : RRead w (.slice a n c) rs) (hv' : RRead w (.slice a' n c') rs) (hl : n ≤ 1048576) :
    Calls Tryd.prog 13 #[.slice a n c, .slice a' n c'] w fun e w' => e = .returned (.bool true) ∧ Below w.heap.size w w' := by
  subst hn
  exact lRuns_any a a' c c' rs w hv hv' hl
end Go.Proofs.YtamblkibmlfklabDoor

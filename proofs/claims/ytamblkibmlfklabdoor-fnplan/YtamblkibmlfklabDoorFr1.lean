import Derived.RangeFuncNested
import Derived.RangeFuncBound
import Derived.RangeFuncCalls
import Derived.RangeFuncLeaves
import Derived.Shelf.Abstract
import Derived.Shelf.RegionOpen
import Derived.WalkKit
import Derived.OwnWalkIn
import Derived.TacticsInMore
import Derived.LoopNIn
import Derived.LoopIn
import Derived.Test.YtamblkibmlfklabDoorChk3
namespace Go.Proofs.YtamblkibmlfklabDoor
open Go.RowKit Go.Shelf
attribute [local go_sem] Oper.semAt_some

/-- a block that may be free: from 2 on, below n -/
abbrev Blk (n : Nat) := { x : Nat // 2 ≤ x ∧ x < n }
/-- block i is free -/
def isF (zs ys : List Int) (i : Nat) : Bool := zs.getD i 0 == 0 && ys.getD i 0 == 0
/-- the free blocks below k, in rising order -/
def frs (zs ys : List Int) (n k : Nat) : List (Blk n) := ((List.range k).filterMap fun i => if h : 2 ≤ i ∧ i < n then (if isF zs ys i then some ⟨i, h⟩ else none) else none)

theorem frs_yes (zs ys : List Int) (n k : Nat) (h : 2 ≤ k ∧ k < n) (hf : isF zs ys k = true) : frs zs ys n (k + 1) = frs zs ys n k ++ [⟨k, h⟩] := by
  simp [frs, List.range_succ, h, hf]
theorem frs_no (zs ys : List Int) (n k : Nat) (h : ¬ (2 ≤ k ∧ k < n ∧ isF zs ys k = true)) : frs zs ys n (k + 1) = frs zs ys n k := by
  simp only [frs, List.range_succ, List.filterMap_append, List.filterMap_cons, List.filterMap_nil]
  by_cases h1 : 2 ≤ k ∧ k < n
  · have : isF zs ys k ≠ true := fun e => h ⟨h1.1, h1.2, e⟩
    simp [h1, this]
  · simp [h1]
theorem frs_prefix (zs ys : List Int) (n : Nat) {j k : Nat} (h : j ≤ k) : frs zs ys n j <+: frs zs ys n k := by
  induction k with
  | zero => rw [show j = 0 by omega]; exact List.prefix_refl _
  | succ k ih =>
    by_cases hj : j = k + 1
    · rw [hj]; exact List.prefix_refl _
    · refine (ih (by omega)).trans ?_
      by_cases h1 : 2 ≤ k ∧ k < n ∧ isF zs ys k = true
      · rw [frs_yes zs ys n k ⟨h1.1, h1.2.1⟩ h1.2.2]; exact List.prefix_append _ _
      · rw [frs_no zs ys n k h1]; exact List.prefix_refl _
theorem frs_length (zs ys : List Int) (n k : Nat) : (frs zs ys n k).length ≤ k := by
  simp only [frs]
  exact Nat.le_trans (List.length_filterMap_le _ _) (by simp)

/-- what a round that goes on keeps: what lay below n₀, and the two boxes -/
def KpF (n₀ Bs Bt : Nat) (W W' : World) : Prop := Below n₀ W W' ∧ W'.heap[Bs]? = W.heap[Bs]? ∧ W'.heap[Bt]? = W.heap[Bt]?
theorem KpF.refl (n₀ Bs Bt : Nat) (W : World) : KpF n₀ Bs Bt W W := ⟨Below.refl _ _, rfl, rfl⟩
theorem KpF.trans {n₀ Bs Bt : Nat} {A B C : World} (h : KpF n₀ Bs Bt A B) (k : KpF n₀ Bs Bt B C) : KpF n₀ Bs Bt A C := ⟨h.1.trans k.1, k.2.1.trans h.2.1, k.2.2.trans h.2.2⟩
theorem KpF.put {n₀ Bs Bt N : Nat} (h1 : n₀ ≤ N) (h2 : Bs < N) (h3 : Bt < N) (W : World) (l : Nat) (o o' : Obj) (hl : N ≤ l) (ho : W.heap[l]? = some o) (_ : o.isCells = false) (_ : o.isWalk = false) : KpF n₀ Bs Bt W (W.putObj l o') := by
  have hlt : l < W.heap.size := (Array.getElem?_eq_some_iff.1 ho).1
  exact ⟨(Below.refl n₀ W).grown (grownBy_putObj' W l o') (by omega) (fun k e => by cases e; omega), World.putObj_heap_other (by omega), World.putObj_heap_other (by omega)⟩

set_option maxRecDepth 100000 in
set_option maxHeartbeats 2000000 in
theorem free1_in (F : Fence) (n : Nat) (hg : F.fn 35) (hro : F.round = none) (hn : 1 ≤ n) (l Bs Bt n₀ b off b' off' c c' : Nat) (zs ys : List Int) (hl : ys.length = zs.length) (hz : zs.length ≤ 512) (hz8 : 8 ≤ zs.length) (hb : b < n₀) (hb' : b' < n₀) (J Jx : List (Blk zs.length) → World → Prop)
    (hY : ∀ pre (x : Blk zs.length) W, J pre W → pre.length < zs.length → YieldAt F (n - 1) Tryd.prog l #[.int .i64 (x.1 : Int)] W fun e W' =>
      (e = .returned (.bool true) ∧ J (pre ++ [x]) W' ∧ KpF n₀ Bs Bt W W') ∨ (e = .returned (.bool false) ∧ Jx (pre ++ [x]) W'))
    (W : World) (hcs : W.cell? ⟨Bs, 0, none⟩ = some (.slice (some ⟨b, off, none⟩) zs.length c)) (hct : W.cell? ⟨Bt, 0, none⟩ = some (.slice (some ⟨b', off', none⟩) ys.length c'))
    (hc : ∀ j, j < zs.length → W.cell? ⟨b, off + j, none⟩ = some (.int .i64 (zs.getD j 0))) (hc' : ∀ j, j < ys.length → W.cell? ⟨b', off' + j, none⟩ = some (.int .i64 (ys.getD j 0))) (h0 : J [] W) :
    CallsIn F n Tryd.prog 35 #[.func (.yield l) #[] #[], .pointer (some ⟨Bs, 0, none⟩), .pointer (some ⟨Bt, 0, none⟩)] W fun e W' => (∃ v, e = .returned v) ∧
      ((∃ xs, xs = frs zs ys zs.length zs.length ∧ J xs W') ∨ (∃ pre, (∃ k, k ≤ zs.length ∧ pre = frs zs ys zs.length k) ∧ Jx pre W')) := by
  refine callsIn_of_wp Tryd.func35 rfl hg ?_ hro
  simp only [Tryd.ntmps35, List.size_toArray, List.length_cons, List.length_nil, Nat.reduceAdd, Nat.reduceSub, Array.replicate_succ, Array.replicate_zero, List.push_toArray, List.append_toArray, List.nil_append, List.cons_append]
  gi_wp2
  gi_loopw [4] (fun i wr => ∃ k : Nat, 2 ≤ k ∧ k ≤ zs.length ∧ i = .int .i64 k ∧ J (frs zs ys zs.length k) wr ∧ KpF n₀ Bs Bt W wr) (fun i _ => zs.length - (intOf i).toNat)
  case atStart => exact ⟨2, Nat.le_refl _, by omega, rfl, h0, KpF.refl _ _ _ _⟩
  case round =>
    obtain ⟨k, hk2, hk, rfl, hJs, hnx⟩ := hrel
    have d1 : wr.cell? ⟨Bs, 0, none⟩ = some (.slice (some ⟨b, off, none⟩) zs.length c) := (World.cell?_of_block (a := ⟨Bs, 0, none⟩) hnx.2.1).trans hcs
    have d2 : wr.cell? ⟨Bt, 0, none⟩ = some (.slice (some ⟨b', off', none⟩) ys.length c') := (World.cell?_of_block (a := ⟨Bt, 0, none⟩) hnx.2.2).trans hct
    by_cases hlt : k < zs.length
    · have d3 : wr.cell? ⟨b, off + k, none⟩ = some (.int .i64 (zs.getD k 0)) := (hnx.1.cell (p := ⟨b, off + k, none⟩) hb).trans (hc k hlt)
      have d4 : wr.cell? ⟨b', off' + k, none⟩ = some (.int .i64 (ys.getD k 0)) := (hnx.1.cell (p := ⟨b', off' + k, none⟩) hb').trans (hc' k (by omega))
      have hi : (k : Int) < (zs.length : Int) := by omega
      have hi' : (k : Int) < (ys.length : Int) := by omega
      have HF : Hid (isF zs ys k = (zs.getD k 0 == 0 && ys.getD k 0 == 0)) := rfl
      have hlen := frs_length zs ys zs.length k
      obtain ⟨x, HX⟩ : ∃ x, Hid (zs.getD k 0 = x) := ⟨_, rfl⟩
      obtain ⟨y, HYY⟩ : ∃ y, Hid (ys.getD k 0 = y) := ⟨_, rfl⟩
      rw [HX.out] at d3 HF
      rw [HYY.out] at d4 HF
      clear hc hc' hcs hct h0
      have HL : Hid (ys.length = zs.length) := hl
      clear hl
      by_cases hx : x = 0
      · subst hx
        by_cases hy : y = 0
        · subst hy
          have hfr : isF zs ys k = true := by rw [HF.out]; rfl
          have HFR : Hid (frs zs ys zs.length (k + 1) = frs zs ys zs.length k ++ [⟨k, hk2, hlt⟩]) := frs_yes zs ys _ k ⟨hk2, hlt⟩ hfr
          obtain ⟨fn, tmps, assign, body, hy, hR⟩ := hY _ ⟨k, hk2, hlt⟩ wr hJs (by omega)
          dsimp only at hy
          clear hfr hY
          gi_wp2
          refine hR.mono ?_
          rintro e W3 (⟨rfl, hJ3, hk3⟩ | ⟨rfl, hJx3⟩)
          · rw [← HFR.out] at hJ3
            clear d1 d2 d3 d4 hy hR hJs
            gi_wp2
            go_roundw
            case rel => exact ⟨k + 1, by omega, by omega, by go_num, hJ3, hnx.trans hk3⟩
            case measure => simp [intOf]; omega
          · rw [← HFR.out] at hJx3
            clear d1 d2 d3 d4 hy hR hJs
            gi_wp2
            refine bodyPost_ret (results_none rfl _ _ _) rfl ?_
            exact ⟨⟨_, rfl⟩, .inr ⟨_, ⟨k + 1, by omega, rfl⟩, hJx3⟩⟩
        · have hy' : (y == 0) = false := by simpa using hy
          have HFR : Hid (frs zs ys zs.length (k + 1) = frs zs ys zs.length k) := frs_no zs ys _ k fun e => by have := e.2.2; rw [HF.out, hy'] at this; simp at this
          clear hy hY
          gi_wp2
          refine ⟨fun _ h => (by cases h), ?_⟩
          gi_wp2
          go_roundw
          case rel => exact ⟨k + 1, by omega, by omega, by go_num, by rw [HFR.out]; exact hJs, hnx⟩
          case measure => simp [intOf]; omega
      · have hx' : (x == 0) = false := by simpa using hx
        have HFR : Hid (frs zs ys zs.length (k + 1) = frs zs ys zs.length k) := frs_no zs ys _ k fun e => by have := e.2.2; rw [HF.out, hx'] at this; simp at this
        clear hx hY
        gi_wp2
        refine ⟨fun _ h => (by cases h), ?_⟩
        gi_wp2
        go_roundw
        case rel => exact ⟨k + 1, by omega, by omega, by go_num, by rw [HFR.out]; exact hJs, hnx⟩
        case measure => simp [intOf]; omega
    · obtain rfl : k = zs.length := by omega
      gi_wp2
      go_end0
      exact ⟨⟨_, rfl⟩, .inl ⟨_, rfl, hJs⟩⟩
end Go.Proofs.YtamblkibmlfklabDoor

import Derived.Test.YtlndpbebenecgaaDoorMs8
import Derived.Deep.RegionWith
namespace Go.Proofs.YtlndpbebenecgaaDoor
open Go.RowKit

/-- the []Step value v reads in w as ss: kind, block, bytes -/
def SRead (w : World) (v : Value) (ss : List (Int × Int × List Int)) : Prop :=
  ∃ a cap, v = .slice a ss.length cap ∧ (0 < ss.length → ∃ b off, a = some ⟨b, off, none⟩ ∧ ∀ i, i < ss.length → ∃ da dc, w.cell? ⟨b, off + i * 3, none⟩ = some (.int .i64 (ss.getD i (0, 0, [])).1) ∧ w.cell? ⟨b, off + i * 3 + 1, none⟩ = some (.int .i64 (ss.getD i (0, 0, [])).2.1) ∧ w.cell? ⟨b, off + i * 3 + 2, none⟩ = some (.slice da (ss.getD i (0, 0, [])).2.2.length dc) ∧ Bts w (.slice da (ss.getD i (0, 0, [])).2.2.length dc) (ss.getD i (0, 0, [])).2.2)

theorem SRead.below {w w' : World} {v : Value} {ss : List (Int × Int × List Int)} (h : SRead w v ss) (k : Below w.heap.size w w') : SRead w' v ss := by
  obtain ⟨a, cap, hv, hc⟩ := h
  refine ⟨a, cap, hv, fun hp => ?_⟩
  obtain ⟨b, off, ha, hcell⟩ := hc hp
  refine ⟨b, off, ha, fun i hi => ?_⟩
  obtain ⟨da, dc, g1, g2, g3, g4⟩ := hcell i hi
  have hb := World.block_lt_of_cell? _ _ g1
  exact ⟨da, dc, (k.cell (p := ⟨b, off + i * 3, none⟩) hb).trans g1, (k.cell (p := ⟨b, off + i * 3 + 1, none⟩) hb).trans g2, (k.cell (p := ⟨b, off + i * 3 + 2, none⟩) hb).trans g3, g4.below k⟩

theorem SRead.empty (w : World) (a : Option Addr) (cap : Nat) : SRead w (.slice a 0 cap) [] := ⟨a, cap, rfl, fun h => by simp at h⟩

def SSmall (ss : List (Int × Int × List Int)) : Prop := ss.length ≤ 281474976710656 ∧ ∀ i, (ss.getD i (0, 0, [])).2.2.length ≤ 281474976710656
def SBound (ss : List (Int × Int × List Int)) : Prop := ss.length ≤ 9223372036854775807 ∧ ∀ i, (ss.getD i (0, 0, [])).2.2.length ≤ 9223372036854775807

set_option maxHeartbeats 400000 in
theorem eqStep_same (n q : Int) (v v' : Value) (zs : List Int) (w : World) (hv : Bts w v zs) (hv' : Bts w v' zs) (hn : zs.length ≤ 281474976710656) :
    Calls Tryd.prog 46 #[.agg #[.int .i64 n, .int .i64 q, v], .agg #[.int .i64 n, .int .i64 q, v']] w fun e w' => e = .returned (.bool true) ∧ Below w.heap.size w w' := by
  obtain ⟨a, cap, rfl, -⟩ := hv.shape
  obtain ⟨a', cap', rfl, -⟩ := hv'.shape
  have hne : (n != n) = false := by simp
  have hne2 : (q != q) = false := by simp
  have h1 := (hv.alloc (.cells #[.int .i64 n, .int .i64 q, .slice a zs.length cap] 79)).alloc (.cells #[.int .i64 n, .int .i64 q, .slice a' zs.length cap'] 79)
  have h2 := (hv'.alloc (.cells #[.int .i64 n, .int .i64 q, .slice a zs.length cap] 79)).alloc (.cells #[.int .i64 n, .int .i64 q, .slice a' zs.length cap'] 79)
  go_enter Tryd.func46, Tryd.ntmps46
  go_wp2_with fail
  refine (eqByteS_same _ _ zs _ h1 h2 hn).mono ?_
  rintro e w' ⟨rfl, m, rfl⟩
  go_wp2
  go_ret
  exact ⟨rfl, below_drewN (((Below.refl _ _).alloc (Nat.le_refl _) _).alloc (by simp) _) _⟩

set_option maxHeartbeats 2000000 in
theorem eqStepS_same (v v' : Value) (ss : List (Int × Int × List Int)) (w : World) (hv : SRead w v ss) (hv' : SRead w v' ss) (hn : SSmall ss) :
    Calls Tryd.prog 10 #[v, v'] w fun e w' => e = .returned (.bool true) ∧ Below w.heap.size w w' := by
  obtain ⟨a, cap, rfl, hc⟩ := hv
  obtain ⟨a', cap', rfl, hc'⟩ := hv'
  have hn1 := hn.1
  by_cases hz : 0 < ss.length
  · obtain ⟨b, off, rfl, hcell⟩ := hc hz
    obtain ⟨b', off', rfl, hcell'⟩ := hc' hz
    have heq : ((ss.length : Int) != (ss.length : Int)) = false := by simp
    clear hc hc'
    go_enter Tryd.func10, Tryd.ntmps10
    go_wp2
    go_loopw [5] (fun i wr => ∃ k : Nat, k ≤ ss.length ∧ i = .int .i64 k ∧ Below w.heap.size w wr) (fun i _ => ss.length - (intOf i).toNat)
    case atStart => exact ⟨0, Nat.zero_le _, rfl, Below.refl _ _⟩
    case round =>
      obtain ⟨k, hk, rfl, hb⟩ := hrel
      by_cases hlt : k < ss.length
      · obtain ⟨da, dc, g1, g2, g3, g4⟩ := hcell k hlt
        obtain ⟨da', dc', g1', g2', g3', g4'⟩ := hcell' k hlt
        have hbw := World.block_lt_of_cell? _ _ g1
        have hbw' := World.block_lt_of_cell? _ _ g1'
        rw [← hb.cell (p := ⟨b, off + k * 3, none⟩) hbw] at g1
        rw [← hb.cell (p := ⟨b, off + k * 3 + 1, none⟩) hbw] at g2
        rw [← hb.cell (p := ⟨b, off + k * 3 + 2, none⟩) hbw] at g3
        rw [← hb.cell (p := ⟨b', off' + k * 3, none⟩) hbw'] at g1'
        rw [← hb.cell (p := ⟨b', off' + k * 3 + 1, none⟩) hbw'] at g2'
        rw [← hb.cell (p := ⟨b', off' + k * 3 + 2, none⟩) hbw'] at g3'
        have g5 := g4.below hb
        have g5' := g4'.below hb
        have hi : (k : Int) < (ss.length : Int) := by omega
        have hn2 := hn.2 k
        clear hcell hcell' g4 g4'
        generalize ss.getD k (0, 0, []) = p at g1 g2 g3 g1' g2' g3' g5 g5' hn2
        obtain ⟨q, q2, zs⟩ := p
        go_wp2
        go_region_with (go_at_call 46; refine (eqStep_same _ _ _ _ zs _ ?_ ?_ hn2).mono ?_; exact g5.kept (fun _ _ _ => rfl); exact g5'.kept (fun _ _ _ => rfl); rintro e w1 ⟨rfl, hb1⟩)
        all_goals
          have hb2 : Below w.heap.size w w1 := hb.drew.trans (hb1.mono hb.size)
          clear g1 g2 g3 g1' g2' g3' g5 g5' hb1 hb
          go_wp2
          go_roundw
          case rel => exact ⟨k + 1, by omega, by go_num, hb2⟩
          case measure => simp [intOf]; omega
      · go_wp2
        go_ret
        exact ⟨rfl, hb⟩
  · have hz0 : ss = [] := List.eq_nil_of_length_eq_zero (by omega)
    subst hz0
    clear hc hc'
    go_enter Tryd.func10, Tryd.ntmps10
    go_wp2
    go_loopw [5] (fun i wr => i = .int .i64 0 ∧ wr = w) (fun _ _ => 0)
    case atStart => exact ⟨rfl, rfl⟩
    case round =>
      obtain ⟨rfl, rfl⟩ := hrel
      go_wp2
      go_ret
      exact ⟨rfl, Below.refl _ _⟩
end Go.Proofs.YtlndpbebenecgaaDoor

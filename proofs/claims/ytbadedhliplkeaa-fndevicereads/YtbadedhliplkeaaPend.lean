import Derived.Test.YtbadedhliplkeaaMark
import Derived.Deep.RegionWith
namespace Go.Proofs.Ytbadedhliplkeaa
open Go.RowKit

/-- the []Pending value v reads in w as ps -/
def PRead (w : World) (v : Value) (ps : List (Int × List Int)) : Prop :=
  ∃ a cap, v = .slice a ps.length cap ∧ (0 < ps.length → ∃ b off, a = some ⟨b, off, none⟩ ∧ ∀ i, i < ps.length → ∃ da dc, w.cell? ⟨b, off + i * 2, none⟩ = some (.int .i64 (ps.getD i (0, [])).1) ∧ w.cell? ⟨b, off + i * 2 + 1, none⟩ = some (.slice da (ps.getD i (0, [])).2.length dc) ∧ Bts w (.slice da (ps.getD i (0, [])).2.length dc) (ps.getD i (0, [])).2)

theorem PRead.below {w w' : World} {v : Value} {ps : List (Int × List Int)} (h : PRead w v ps) (k : Below w.heap.size w w') : PRead w' v ps := by
  obtain ⟨a, cap, hv, hc⟩ := h
  refine ⟨a, cap, hv, fun hp => ?_⟩
  obtain ⟨b, off, ha, hcell⟩ := hc hp
  refine ⟨b, off, ha, fun i hi => ?_⟩
  obtain ⟨da, dc, g1, g2, g3⟩ := hcell i hi
  have hb := World.block_lt_of_cell? _ _ g1
  exact ⟨da, dc, (k.cell (p := ⟨b, off + i * 2, none⟩) hb).trans g1, (k.cell (p := ⟨b, off + i * 2 + 1, none⟩) hb).trans g2, g3.below k⟩

theorem PRead.empty (w : World) (a : Option Addr) (cap : Nat) : PRead w (.slice a 0 cap) [] := ⟨a, cap, rfl, fun h => by simp at h⟩

/-- lengths that the laws let by -/
def PSmall (ps : List (Int × List Int)) : Prop := ps.length ≤ 281474976710656 ∧ ∀ i, (ps.getD i (0, [])).2.length ≤ 281474976710656

set_option maxHeartbeats 400000 in
theorem eqPending_same (n : Int) (v v' : Value) (zs : List Int) (w : World) (hv : Bts w v zs) (hv' : Bts w v' zs) (hn : zs.length ≤ 281474976710656) :
    Calls Try.prog 57 #[.agg #[.int .i64 n, v], .agg #[.int .i64 n, v']] w fun e w' => e = .returned (.bool true) ∧ Below w.heap.size w w' := by
  obtain ⟨a, cap, rfl, -⟩ := hv.shape
  obtain ⟨a', cap', rfl, -⟩ := hv'.shape
  have hne : (n != n) = false := by simp
  have h1 := (hv.alloc (.cells #[.int .i64 n, .slice a zs.length cap] 38)).alloc (.cells #[.int .i64 n, .slice a' zs.length cap'] 38)
  have h2 := (hv'.alloc (.cells #[.int .i64 n, .slice a zs.length cap] 38)).alloc (.cells #[.int .i64 n, .slice a' zs.length cap'] 38)
  go_enter Try.func57, Try.ntmps57
  go_wp2_with fail
  refine (eqByteS_same _ _ zs _ h1 h2 hn).mono ?_
  rintro e w' ⟨rfl, m, rfl⟩
  go_wp2
  go_ret
  exact ⟨rfl, below_drewN (((Below.refl _ _).alloc (Nat.le_refl _) _).alloc (by simp) _) _⟩

set_option maxHeartbeats 1000000 in
theorem eqPendingS_same (v v' : Value) (ps : List (Int × List Int)) (w : World) (hv : PRead w v ps) (hv' : PRead w v' ps) (hn : PSmall ps) :
    Calls Try.prog 33 #[v, v'] w fun e w' => e = .returned (.bool true) ∧ Below w.heap.size w w' := by
  obtain ⟨a, cap, rfl, hc⟩ := hv
  obtain ⟨a', cap', rfl, hc'⟩ := hv'
  have hn1 := hn.1
  by_cases hz : 0 < ps.length
  · obtain ⟨b, off, rfl, hcell⟩ := hc hz
    obtain ⟨b', off', rfl, hcell'⟩ := hc' hz
    have heq : ((ps.length : Int) != (ps.length : Int)) = false := by simp
    clear hc hc'
    go_enter Try.func33, Try.ntmps33
    go_wp2
    go_loopw [5] (fun i wr => ∃ k : Nat, k ≤ ps.length ∧ i = .int .i64 k ∧ Below w.heap.size w wr) (fun i _ => ps.length - (intOf i).toNat)
    case atStart => exact ⟨0, Nat.zero_le _, rfl, Below.refl _ _⟩
    case round =>
      obtain ⟨k, hk, rfl, hb⟩ := hrel
      by_cases hlt : k < ps.length
      · obtain ⟨da, dc, g1, g2, g3⟩ := hcell k hlt
        obtain ⟨da', dc', g1', g2', g3'⟩ := hcell' k hlt
        have hbw := World.block_lt_of_cell? _ _ g1
        have hbw' := World.block_lt_of_cell? _ _ g1'
        rw [← hb.cell (p := ⟨b, off + k * 2, none⟩) hbw] at g1
        rw [← hb.cell (p := ⟨b, off + k * 2 + 1, none⟩) hbw] at g2
        rw [← hb.cell (p := ⟨b', off' + k * 2, none⟩) hbw'] at g1'
        rw [← hb.cell (p := ⟨b', off' + k * 2 + 1, none⟩) hbw'] at g2'
        have g4 := g3.below hb
        have g4' := g3'.below hb
        have hi : (k : Int) < (ps.length : Int) := by omega
        have hn2 := hn.2 k
        clear hcell hcell' g3 g3'
        generalize ps.getD k (0, []) = p at g1 g2 g1' g2' g4 g4' hn2
        obtain ⟨q, zs⟩ := p
        go_wp2
        go_region_with (go_at_call 57; refine (eqPending_same _ _ _ zs _ ?_ ?_ hn2).mono ?_; exact g4.kept (fun _ _ _ => rfl); exact g4'.kept (fun _ _ _ => rfl); rintro e w1 ⟨rfl, hb1⟩)
        all_goals
          have hb2 : Below w.heap.size w w1 := hb.drew.trans (hb1.mono hb.size)
          clear g1 g2 g1' g2' g4 g4' hb1 hb
          go_wp2
          go_roundw
          case rel => exact ⟨k + 1, by omega, by go_num, hb2⟩
          case measure => simp [intOf]; omega
      · go_wp2
        go_ret
        exact ⟨rfl, hb⟩
  · have hz0 : ps = [] := List.eq_nil_of_length_eq_zero (by omega)
    subst hz0
    clear hc hc'
    go_enter Try.func33, Try.ntmps33
    go_wp2
    go_loopw [5] (fun i wr => i = .int .i64 0 ∧ wr = w) (fun _ _ => 0)
    case atStart => exact ⟨rfl, rfl⟩
    case round =>
      obtain ⟨rfl, rfl⟩ := hrel
      go_wp2
      go_ret
      exact ⟨rfl, Below.refl _ _⟩

set_option maxHeartbeats 400000 in
theorem eqDevice_same (B : Int) (vd vd' vc vc' : Value) (zs : List Int) (ps : List (Int × List Int)) (w : World) (hd : Bts w vd zs) (hd' : Bts w vd' zs) (hc : PRead w vc ps) (hc' : PRead w vc' ps) (hz : zs.length ≤ 281474976710656) (hn : PSmall ps) :
    Calls Try.prog 12 #[.agg #[.int .i64 B, vd, vc], .agg #[.int .i64 B, vd', vc']] w fun e w' => e = .returned (.bool true) ∧ Below w.heap.size w w' := by
  have hs1 := hd.shape
  have hs2 := hd'.shape
  obtain ⟨a, cap, rfl, -⟩ := hs1
  obtain ⟨a', cap', rfl, -⟩ := hs2
  obtain ⟨c, ccap, rfl, hcc⟩ := hc
  obtain ⟨c', ccap', rfl, hcc'⟩ := hc'
  have hne : (B != B) = false := by simp
  have hb0 : Below w.heap.size w ((w.alloc (.cells #[.int .i64 B, .slice a zs.length cap, .slice c ps.length ccap] 25)).alloc (.cells #[.int .i64 B, .slice a' zs.length cap', .slice c' ps.length ccap'] 25)) := ((Below.refl _ _).alloc (Nat.le_refl _) _).alloc (by simp) _
  have h1 := hd.below hb0
  have h2 := hd'.below hb0
  have h3 : PRead _ _ ps := PRead.below ⟨c, ccap, rfl, hcc⟩ hb0
  have h4 : PRead _ _ ps := PRead.below ⟨c', ccap', rfl, hcc'⟩ hb0
  clear hcc hcc'
  go_enter Try.func12, Try.ntmps12
  go_wp2_with fail
  refine (eqByteS_same _ _ zs _ h1 h2 hz).mono ?_
  rintro e w' ⟨rfl, m, rfl⟩
  go_wp2_with fail
  refine (eqPendingS_same _ _ ps _ (h3.below (below_drewN (Below.refl _ _) m)) (h4.below (below_drewN (Below.refl _ _) m)) hn).mono ?_
  rintro e w' ⟨rfl, hb1⟩
  have hb2 : Below w.heap.size w w' := (below_drewN hb0 m).trans (hb1.mono (below_drewN hb0 m).size)
  clear hb1
  go_wp2
  go_ret
  exact ⟨rfl, hb2⟩
end Go.Proofs.Ytbadedhliplkeaa

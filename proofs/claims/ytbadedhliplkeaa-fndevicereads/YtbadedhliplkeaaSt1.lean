import Derived.Test.YtbadedhliplkeaaWr8
import Derived.Deep.RegionWith
namespace Go.Proofs.Ytbadedhliplkeaa
open Go.RowKit

/-- the []Step value v reads in w as ss: kind, block, bytes -/
def SRead (w : World) (v : Value) (ss : List (Int × Int × List Int)) : Prop :=
  ∃ a cap, v = .slice a ss.length cap ∧ (0 < ss.length → ∃ b off, a = some ⟨b, off, none⟩ ∧ ∀ i, i < ss.length → ∃ da dc, w.cell? ⟨b, off + i * 3, none⟩ = some (.int .i64 (ss.getD i (0, 0, [])).1) ∧ w.cell? ⟨b, off + i * 3 + 1, none⟩ = some (.int .i64 (ss.getD i (0, 0, [])).2.1) ∧ w.cell? ⟨b, off + i * 3 + 2, none⟩ = some (.slice da (ss.getD i (0, 0, [])).2.2.length dc) ∧ Bts w (.slice da (ss.getD i (0, 0, [])).2.2.length dc) (ss.getD i (0, 0, [])).2.2)

theorem SRead.below {w w' : World} {v : Value} {ss : List (Int × Int × List Int)} (h : SRead w v ss) (k : Below w.heap.size w w') : SRead w' v ss := by
  obtain ⟨a, cap, hv, hc⟩ := h
  refine ⟨a, cap, hv, fun hp => ?_⟩
  obtain ⟨b, off, ha, hcell⟩ := hc hp
  refine ⟨b, off, ha, fun i hi => ?_⟩
  obtain ⟨da, dc, g1, g2, g3, g4⟩ := hcell i hi
  have hb := World.block_lt_of_cell? _ _ g1
  exact ⟨da, dc, (k.cell (p := ⟨b, off + i * 3, none⟩) hb).trans g1, (k.cell (p := ⟨b, off + i * 3 + 1, none⟩) hb).trans g2, (k.cell (p := ⟨b, off + i * 3 + 2, none⟩) hb).trans g3, g4.below k⟩

theorem SRead.empty (w : World) (a : Option Addr) (cap : Nat) : SRead w (.slice a 0 cap) [] := ⟨a, cap, rfl, fun h => by simp at h⟩

def SSmall (ss : List (Int × Int × List Int)) : Prop := ss.length ≤ 281474976710656 ∧ ∀ i, (ss.getD i (0, 0, [])).2.2.length ≤ 281474976710656
def SBound (ss : List (Int × Int × List Int)) : Prop := ss.length ≤ 9223372036854775807 ∧ ∀ i, (ss.getD i (0, 0, [])).2.2.length ≤ 9223372036854775807

end Go.Proofs.Ytbadedhliplkeaa

import Derived.Test.YtfbjagjgofdheaaGreatDoorQm
namespace Go.Proofs.YtfbjagjgofdheaaGreatDoor
open Go.RowKit

theorem row5 {w : World} {g : Nat} {x0 x1 x2 x3 x4 : Value} {t : TypeId} (h : w.heap[g]? = some (.cells #[x0, x1, x2, x3, x4] t (0, 0))) : w.cell? ⟨g, 0, none⟩ = some x0 ∧ w.cell? ⟨g, 1, none⟩ = some x1 ∧ w.cell? ⟨g, 2, none⟩ = some x2 ∧ w.cell? ⟨g, 3, none⟩ = some x3 ∧ w.cell? ⟨g, 4, none⟩ = some x4 := by
  simp [World.cell?, h]
/-- a copy of a sealed block in which one bit is turned: no longer sealed -/
theorem turn_row {w x1 : World} {u : Value} {L : List Int} (hl : L.length = 128) (hb : Byt L) (hsd : Sld L) (hr : Row8 w.heap.size x1 u L) (hbx : Below w.heap.size w x1) {at' s : Nat} (ha : at' < 128) (hs : s < 8) :
    ∃ q cap, u = .slice (some ⟨q, 0, none⟩) 128 cap ∧ 128 ≤ cap ∧ x1.cell? ⟨q, at', none⟩ = some (.int .u8 (L.getD at' 0)) ∧ x1.frozen? ⟨q, at', none⟩ = false ∧
      ∃ L', Bts (x1.setCell ⟨q, at', none⟩ (.int .u8 (bits .xor .u8 (L.getD at' 0) (2 ^ s % 256)))) (.slice (some ⟨q, 0, none⟩) 128 cap) L' ∧ Below w.heap.size w (x1.setCell ⟨q, at', none⟩ (.int .u8 (bits .xor .u8 (L.getD at' 0) (2 ^ s % 256)))) ∧ L'.length = 128 ∧ Byt L' ∧ ¬ putL L' 124 (crcOf (L'.take 124)) 4 = L' := by
  obtain ⟨q, cap, cur, rfl, hq, -, hcap, -, -⟩ := hr.lay (by omega)
  rw [hl] at hr hcap
  obtain ⟨g1, g2⟩ := hr.get hl.symm at' (by omega)
  have hx := xor8 (L.getD at' 0) s (hb at') hs
  refine ⟨q, cap, by rw [hl], hcap, g1, g2, L.set at' (bits .xor .u8 (L.getD at' 0) (2 ^ s % 256)), ?_, hbx.setCell hq _, by rw [List.length_set]; exact hl, byt_set hb _ hx.1, turned_not hl hb hsd at' ha hx.1 hx.2⟩
  exact Row8.bts (hr.put hl.symm at' (by omega) _) (byt_set hb _ hx.1)
end Go.Proofs.YtfbjagjgofdheaaGreatDoor

import Derived.Test.YtbadedhliplkeaaDs6
namespace Go.Proofs.Ytbadedhliplkeaa
open Go.RowKit
set_option linter.unusedVariables false

set_option maxHeartbeats 1000000 in
theorem copyBytes_any (v : Value) (zs : List Int) (w : World) (hv : Bts w v zs) (hn : zs.length ≤ 1048576) :
    Calls Try.prog 20 #[v] w fun e w' => ∃ a cap g, e = .returned (.slice a zs.length cap) ∧ w.heap.size ≤ g ∧ g < w'.heap.size ∧ Own8 g (g + 1) w' (.slice a zs.length cap) zs ∧ Below w.heap.size w w' := by
  obtain ⟨a, cap, rfl, hc⟩ := hv.shape
  have hsm := hv.small
  go_enter Try.func20, Try.ntmps20
  go_wp2
  go_loopw [3, 4] (fun u i wr => ∃ k : Nat, k ≤ zs.length ∧ i = .int .i64 k ∧ Row8 w.heap.size wr u (zs.take k) ∧ Below w.heap.size w wr ∧ w.heap.size < wr.heap.size) (fun _ i _ => zs.length - (intOf i).toNat)
  case atStart => exact ⟨0, Nat.zero_le _, rfl, Row8.lit _ _ (Nat.le_refl _) _ rfl, belowA _ _, by simp⟩
  case round =>
    obtain ⟨k, hk, rfl, hown, hbel, hsz⟩ := hrel
    obtain ⟨ua, uc, hua⟩ := hown.shape
    subst hua
    have htl : (zs.take k).length = k := by simp; omega
    have hfl : (zs.take k).length < 140737488355328 := by omega
    have hsz' : w.heap.size ≤ wr.heap.size := by omega
    by_cases hlt : k < zs.length
    · obtain ⟨b, off, rfl, hcell⟩ := hc (by omega)
      have g1 : wr.cell? ⟨b, off + k, none⟩ = some (.int .u8 (zs.getD k 0)) := (hbel.cell (p := ⟨b, off + k, none⟩) (World.block_lt_of_cell? _ _ (hcell k hlt))).trans (hcell k hlt)
      have HG : Hid (zs.take (k + 1) = zs.take k ++ [zs[k]]) := List.take_succ_eq_append_getElem hlt
      clear hc hcell htl
      go_wp2_with (first | (at_builtin; refine wpList_append8 rfl _ _ rfl _ hown rfl rfl hfl hsz' ?_; intro v' w1 hown1 hbel1 hsz1 hgr1) | go_in)
      rw [← HG.out] at hown1
      go_roundw
      case rel => exact ⟨k + 1, by omega, by go_num, hown1, hbel.trans hbel1, by omega⟩
      case measure => simp [intOf]; omega
    · have HT : Hid (zs.take k = zs) := List.take_of_length_le (by omega)
      rw [HT.out] at hown
      have hO := hown.own1 hsm hsz
      rw [HT.out]
      clear hc hown htl
      go_wp2
      go_ret
      obtain ⟨g, e1, e2, e3⟩ := hO
      exact ⟨ua, uc, g, rfl, e1, e2, e3, hbel⟩
end Go.Proofs.Ytbadedhliplkeaa

import Derived.Test.YtccmlgnjojdeeaaDoorSC
namespace Go.Proofs.YtccmlgnjojdeeaaDoor
open Go.RowKit

set_option maxHeartbeats 1600000 in
theorem l6Cut_any (s : ByteArray) (w : World) (hs : s.size ≤ 1000000) :
    Calls Tryd.prog 9 #[.string s, .int .u8 47] w fun e w' => ∃ v, e = .returned v ∧ SOwn w.heap.size w'.heap.size w' v (cut s) ∧ Below w.heap.size w w' := by
  go_enter Tryd.func9, Tryd.ntmps9
  go_wp2
  go_loopw [5, 6, 7] (fun out fr i wr => ∃ (a j : Nat) (zs : List ByteArray), a ≤ j ∧ j ≤ s.size ∧ i = .int .i64 j ∧ fr = .int .i64 a ∧ zs.length ≤ a ∧ SRow w.heap.size wr out zs ∧ Below w.heap.size w wr ∧ Hid (zs ++ cut (s.extract a s.size) = cut s) ∧ Hid (∀ k (h : k < s.size), a ≤ k → k < j → (s[k]'h).toNat ≠ 47)) (fun _ _ i _ => s.size - (intOf i).toNat)
  case atStart => exact ⟨0, 0, [], Nat.le_refl _, Nat.zero_le _, rfl, rfl, Nat.le_refl _, SRow.lit _ _ (Nat.le_refl _) _ rfl, (Below.refl _ _).alloc (Nat.le_refl _) _, by rw [ext_all]; rfl, fun k _ h1 h2 => by omega⟩
  case round =>
    obtain ⟨a, j, zs, haj, hj, rfl, rfl, hl, hown, hb, HC, HN⟩ := hrel
    have hsz := hb.size
    by_cases hlt : j < s.size
    · by_cases h47 : (s[j]'hlt).toNat = 47
      · have HA : Hid _ := cut_at s a j haj hlt h47 HN.out
        have hfl : zs.length < 4294967296 := by omega
        have hi47 : ((s[j]'hlt).toNat : Int) = 47 := by omega
        go_wp2_with (first | (at_builtin; refine wpList_appendS rfl _ _ rfl (s.extract a j) hown rfl rfl hfl hsz ?_; intro v' w1 hown1 hbel1 hsz1 hgr1) | go_in)
        go_roundw
        case rel =>
          refine ⟨j + 1, j + 1, zs ++ [s.extract a j], Nat.le_refl _, by omega, by go_num, by go_num, by simp; omega, hown1, hb.trans hbel1, ?_, fun k _ h1 h2 => by omega⟩
          rw [← HC.out, HA.out]; simp [Hid]
        case measure => simp [intOf]; omega
      · have hi47 : (((s[j]'hlt).toNat : Int) == 47) = false := by simp; omega
        go_wp2
        go_roundw
        case rel =>
          refine ⟨a, j + 1, zs, by omega, by omega, by go_num, rfl, hl, hown, hb, HC, fun k h h1 h2 => ?_⟩
          by_cases e : k = j
          · subst e; exact h47
          · exact HN.out k h h1 (by omega)
        case measure => simp [intOf]; omega
    · have HA : Hid _ := cut_last s a (fun k h h1 => HN.out k h h1 (by omega))
      have hfl : zs.length < 4294967296 := by omega
      have has : (a : Int) ≤ (s.size : Int) := by omega
      go_wp2_with (first | (at_builtin; refine wpList_appendS rfl _ _ rfl (s.extract a s.size) hown rfl rfl hfl hsz ?_; intro v' w1 hown1 hbel1 hsz1 hgr1) | go_in)
      go_ret
      have e : zs ++ [s.extract a s.size] = cut s := by rw [← HC.out, HA.out]
      rw [e] at hown1
      exact ⟨v', rfl, hown1.own, hb.trans hbel1⟩

end Go.Proofs.YtccmlgnjojdeeaaDoor

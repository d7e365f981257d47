import Derived.Test.YtlndpbebenecgaaDoorMark
import Derived.Test.YtlndpbebenecgaaDoorCrc
namespace Go.Proofs.YtlndpbebenecgaaDoor
open Go.RowKit

/-- byte i of v, the least first -/
def leB (v : Int) (i : Nat) : Int := v / 2 ^ (8 * i) % 256
theorem leB_small (v : Int) (i : Nat) : 0 ≤ leB v i ∧ leB v i < 256 := by unfold leB; omega
/-- the first n bytes of v -/
def leN (v : Int) (n : Nat) : List Int := (List.range n).map fun i => leB v i
theorem leN_length (v : Int) (n : Nat) : (leN v n).length = n := by simp [leN]
theorem leN_snoc (v : Int) (n : Nat) : leN v (n + 1) = leN v n ++ [leB v n] := by simp [leN, List.range_succ]
theorem leN_small (v : Int) (n i : Nat) : 0 ≤ (leN v n).getD i 0 ∧ (leN v n).getD i 0 < 256 := by
  by_cases h : i < n
  · have := leB_small v i
    simpa [leN, h] using this
  · simp [leN, h]

set_option maxHeartbeats 1000000 in
theorem l2Num_any (u : Value) (zs : List Int) (v : Int) (n : Nat) (base : Nat) (w : World) (hu : Row8 base w u zs) (hb : base ≤ w.heap.size) (hz : zs.length ≤ 1048576) (hn : n ≤ 8) :
    Calls Tryd.prog 40 #[u, .int .i64 v, .int .i64 n] w fun e w' => ∃ u', e = .returned u' ∧ Row8 base w' u' (zs ++ leN v n) ∧ Below base w w' := by
  go_enter Tryd.func40, Tryd.ntmps40
  go_wp2
  go_loopw [0, 7] (fun u i wr => ∃ k : Nat, k ≤ n ∧ i = .int .i64 k ∧ Row8 base wr u (zs ++ leN v k) ∧ Below base w wr) (fun _ i _ => n - (intOf i).toNat)
  case atStart => exact ⟨0, Nat.zero_le _, rfl, by simpa [leN] using hu, Below.refl _ _⟩
  case round =>
    obtain ⟨k, hk, rfl, hown, hbl⟩ := hrel
    obtain ⟨ua, uc, hua⟩ := hown.shape
    subst hua
    have hsz := hbl.size
    have hfl : (zs ++ leN v k).length < 140737488355328 := by simp [leN_length]; omega
    by_cases hlt : k < n
    · have hki : (k : Int) < (n : Int) := by omega
      have HSN : Hid (zs ++ leN v (k + 1) = (zs ++ leN v k) ++ [leB v k]) := by rw [Hid, leN_snoc, List.append_assoc]
      have HB : Hid (leB v k = v / 2 ^ (8 * k) % 256) := rfl
      generalize zs ++ leN v k = ys at *
      go_wp2_with (first | (at_builtin; refine wpList_append8 rfl _ _ rfl _ hown rfl rfl hfl (by omega) ?_; intro v' w1 hown1 hbel1 hsz1 hgr1) | go_in)
      rw [← HB.out, ← HSN.out] at hown1
      go_roundw
      case rel => exact ⟨k + 1, by omega, by go_num, hown1, hbl.trans hbel1⟩
      case measure => simp [intOf]; omega
    · obtain rfl : k = n := by omega
      go_wp2
      go_ret
      exact ⟨_, rfl, hown, hbl⟩
end Go.Proofs.YtlndpbebenecgaaDoor

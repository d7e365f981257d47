import Derived.Test.YtpjdhfbeofdplaaGreatDoorCd3
namespace Go.Proofs.YtpjdhfbeofdplaaGreatDoor
open Go.RowKit

set_option maxRecDepth 100000 in
set_option maxHeartbeats 2000000 in
theorem specEncT_no (nx : Int) (a : Option Addr) (c : Nat) (rs : List R3) (w : World) (hv : RRead w (.slice a rs.length c) rs) (hn : rs.length ≤ 1048576) (hok : ¬ tbOK nx rs) :
    Calls Tryz.prog 35 #[.agg #[.int .i64 nx, .slice a rs.length c]] w fun e w' => e = .returned (.tuple #[.slice none 0 0, .int .i64 5]) ∧ Below w.heap.size w w' := by
  have hb0 := belowA w (.cells #[.int .i64 nx, .slice a rs.length c] 84)
  have hcase : ((nx != 0) = true ∧ nx < 2) ∨ ((nx != 0) = true ∧ ¬ nx < 2 ∧ 512 ≤ nx) ∨ (nxOK nx ∧ (20 : Int) < (rs.length : Int)) ∨ (nxOK nx ∧ ¬ (20 : Int) < (rs.length : Int) ∧ ¬ okT 512 rs) := by
    by_cases h : nxOK nx
    · by_cases hl : (20 : Int) < (rs.length : Int)
      · exact .inr (.inr (.inl ⟨h, hl⟩))
      · exact .inr (.inr (.inr ⟨h, hl, fun hT => hok ⟨h, by omega, hT⟩⟩))
    · have h' : nx ≠ 0 ∧ ¬ (2 ≤ nx ∧ nx ≤ 511) := ⟨fun e => h (.inl e), fun e => h (.inr e)⟩
      by_cases h2 : nx < 2
      · exact .inl ⟨by simp; exact h'.1, h2⟩
      · exact .inr (.inl ⟨by simp; exact h'.1, h2, by omega⟩)
  clear hok
  go_enter Tryz.func35, Tryz.ntmps35
  rcases hcase with ⟨hn0, h1⟩ | ⟨hn0, h1, h2⟩ | ⟨hnx, hl⟩ | ⟨hnx, hl, hT⟩
  · go_wp2
    exact bodyPost_ret (v := .tuple #[.slice none 0 0, .int .i64 5]) (by simp [results, Tryz.results35, go_sem]) rfl ⟨rfl, hb0⟩
  · go_wp2
    exact bodyPost_ret (v := .tuple #[.slice none 0 0, .int .i64 5]) (by simp [results, Tryz.results35, go_sem]) rfl ⟨rfl, hb0⟩
  · have hcase : (nx != 0) = false ∨ ((nx != 0) = true ∧ ¬ nx < 2 ∧ ¬ 512 ≤ nx) := by
      rcases hnx with h | h
      · exact .inl (by simp [h])
      · exact .inr ⟨by simp; omega, by omega, by omega⟩
    clear hnx
    rcases hcase with hn0 | ⟨hn0, hn1, hn2⟩
    all_goals
      go_wp2
      exact bodyPost_ret (v := .tuple #[.slice none 0 0, .int .i64 5]) (by simp [results, Tryz.results35, go_sem]) rfl ⟨rfl, hb0⟩
  · have hcase : (nx != 0) = false ∨ ((nx != 0) = true ∧ ¬ nx < 2 ∧ ¬ 512 ≤ nx) := by
      rcases hnx with h | h
      · exact .inl (by simp [h])
      · exact .inr ⟨by simp; omega, by omega, by omega⟩
    clear hnx
    have HT : Hid (¬ okT 512 rs) := hT
    clear hT
    rcases hcase with hn0 | ⟨hn0, hn1, hn2⟩
    all_goals
      go_wp2_with fail
      refine (l2RunsOK_any 512 (by omega) _ rs _ (hv.below hb0) (by omega)).mono ?_
      rintro e w1 ⟨hb1, ⟨hyes, -⟩ | ⟨-, rfl⟩⟩
      case inl => exact absurd hyes HT.out
      have hB1 := hb0.trans (hb1.mono (by simp))
      go_wp2
      exact bodyPost_ret (v := .tuple #[.slice none 0 0, .int .i64 5]) (by simp [results, Tryz.results35, go_sem]) rfl ⟨rfl, hB1⟩
end Go.Proofs.YtpjdhfbeofdplaaGreatDoor

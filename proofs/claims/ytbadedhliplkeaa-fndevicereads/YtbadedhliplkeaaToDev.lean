import Derived.Test.YtbadedhliplkeaaDev
namespace Go.Proofs.Ytbadedhliplkeaa
open Go.RowKit

/-- what is left, or -1 -/
def szR (x : Int) : Int := if x < 0 then -1 else x
theorem szR_neg {x : Int} (h : x < 0) : szR x = -1 := by simp [szR, h]
theorem szR_pos {x : Int} (h : 0 ≤ x) : szR x = x := by simp [szR]; omega

set_option maxHeartbeats 400000 in
theorem szByteS_any (a : Option Addr) (n cap : Nat) (left : Int) (w : World) (hn : n ≤ 9223372036854775807) (h0 : 0 ≤ left) (h1 : left ≤ 1048576) :
    Calls Try.prog 52 #[.slice a n cap, .int .i64 left] w fun e w' => e = .returned (.int .i64 (szR (left - n))) ∧ w = w' := by
  by_cases hlt : left - n < 0
  · rw [szR_neg hlt]
    go_enter Try.func52, Try.ntmps52
    go_wp2
    go_ret
    exact ⟨rfl, rfl⟩
  · rw [szR_pos (by omega)]
    have h2 : 0 ≤ left - n := by omega
    go_enter Try.func52, Try.ntmps52
    go_wp2
    go_ret
    exact ⟨rfl, rfl⟩

set_option maxHeartbeats 400000 in
theorem szPending_any (q : Int) (a : Option Addr) (n cap : Nat) (left : Int) (w : World) (hn : n ≤ 9223372036854775807) (h0 : 0 ≤ left) (h1 : left ≤ 1048576) :
    Calls Try.prog 62 #[.agg #[.int .i64 q, .slice a n cap], .int .i64 left] w fun e w' => e = .returned (.int .i64 (szR (left - n))) ∧ Below w.heap.size w w' := by
  have hb := (Below.refl w.heap.size w).alloc (Nat.le_refl _) (.cells #[.int .i64 q, .slice a n cap] 89)
  by_cases hlt : left - n < 0
  · have hr := szR_neg hlt
    go_enter Try.func62, Try.ntmps62
    go_wp2_with fail
    refine (szByteS_any _ _ _ _ _ hn h0 h1).mono ?_
    rintro e w' ⟨rfl, rfl⟩
    go_wp2
    go_ret
    exact ⟨by rw [hr]; rfl, hb⟩
  · have HR : Hid (szR (left - n) = left - n) := szR_pos (by omega)
    have h2 : 0 ≤ szR (left - n) := by rw [HR.out]; omega
    go_enter Try.func62, Try.ntmps62
    go_wp2_with fail
    refine (szByteS_any _ _ _ _ _ hn h0 h1).mono ?_
    rintro e w' ⟨rfl, rfl⟩
    go_wp2
    go_ret
    exact ⟨rfl, hb⟩

/-- the bytes of ps -/
def dataP (ps : List (Int × List Int)) : Int := sumP ps - ps.length

theorem dataP_nonneg (ps : List (Int × List Int)) : 0 ≤ dataP ps := by
  induction ps with
  | nil => simp [dataP, sumP]
  | cons p r ih => simp only [dataP, sumP, List.length_cons] at ih ⊢; omega

theorem dataP_take_succ (ps : List (Int × List Int)) (i : Nat) (h : i < ps.length) : dataP (ps.take (i + 1)) = dataP (ps.take i) + (ps.getD i (0, [])).2.length := by
  have := sumP_take_succ ps i h
  simp only [dataP, List.length_take] at this ⊢
  omega

theorem dataP_take_le (ps : List (Int × List Int)) (i : Nat) : dataP (ps.take i) ≤ dataP ps := by
  induction ps generalizing i with
  | nil => simp
  | cons p r ih =>
    match i with
    | 0 => have := dataP_nonneg (p :: r); simpa [dataP, sumP] using this
    | i + 1 =>
      have := ih i
      simp only [dataP, List.take_succ_cons, sumP, List.length_cons] at this ⊢; omega

set_option maxHeartbeats 1000000 in
theorem szPendingS_any (v : Value) (ps : List (Int × List Int)) (left : Int) (w : World) (hv : PRead w v ps) (hn : ps.length ≤ 9223372036854775807) (hn2 : ∀ i, (ps.getD i (0, [])).2.length ≤ 9223372036854775807) (h0 : 0 ≤ left) (h1 : left ≤ 1048576) :
    Calls Try.prog 53 #[v, .int .i64 left] w fun e w' => e = .returned (.int .i64 (szR (left - sumP ps))) ∧ Below w.heap.size w w' := by
  obtain ⟨a, cap, rfl, hc⟩ := hv
  have hd0 := dataP_nonneg ps
  have hsd : sumP ps = ps.length + dataP ps := by simp only [dataP]; omega
  by_cases hlt : left - ps.length < 0
  · rw [szR_neg (by omega)]
    clear hc hsd
    go_enter Try.func53, Try.ntmps53
    go_wp2
    go_ret
    exact ⟨rfl, Below.refl _ _⟩
  · have h2 : 0 ≤ left - ps.length := by omega
    have HSD : Hid (sumP ps = ps.length + dataP ps) := hsd
    clear hsd
    by_cases hz : 0 < ps.length
    · obtain ⟨b, off, rfl, hcell⟩ := hc hz
      clear hc
      go_enter Try.func53, Try.ntmps53
      go_wp2
      go_loopw [1, 5] (fun l i wr => ∃ j : Nat, j ≤ ps.length ∧ i = .int .i64 j ∧ l = .int .i64 (left - ps.length - dataP (ps.take j)) ∧ 0 ≤ left - ps.length - dataP (ps.take j) ∧ Below w.heap.size w wr) (fun _ i _ => ps.length - (intOf i).toNat)
      case atStart => exact ⟨0, Nat.zero_le _, rfl, by simp [dataP, sumP], by simpa [dataP, sumP] using h2, Below.refl _ _⟩
      case round =>
        obtain ⟨j, hj, rfl, rfl, hl0, hb⟩ := hrel
        have hdj := dataP_nonneg (ps.take j)
        by_cases hjl : j < ps.length
        · obtain ⟨da, dc, g1, g2, g3⟩ := hcell j hjl
          have hbw := World.block_lt_of_cell? _ _ g1
          rw [← hb.cell (p := ⟨b, off + j * 2, none⟩) hbw] at g1
          rw [← hb.cell (p := ⟨b, off + j * 2 + 1, none⟩) hbw] at g2
          have hs := dataP_take_succ ps j hjl
          have hle := dataP_take_le ps (j + 1)
          have hnj := hn2 j
          generalize ps.getD j (0, []) = p at g1 g2 g3 hs hnj
          obtain ⟨q, zs⟩ := p
          simp only at g1 g2 g3 hs hnj
          clear hcell g3
          by_cases hneg : left - ps.length - dataP (ps.take j) - zs.length < 0
          · have hr := szR_neg hneg
            have HF : Hid (szR (left - sumP ps) = -1) := by rw [HSD.out]; exact szR_neg (by omega)
            have hle1 : left - ps.length - dataP (ps.take j) ≤ 1048576 := by omega
            have HR : Hid (szR (left - ps.length - dataP (ps.take j) - zs.length) = -1) := hr
            have hrl : szR (left - ps.length - dataP (ps.take j) - zs.length) < 0 := by rw [hr]; omega
            clear hs hle hr
            generalize left - ps.length - dataP (ps.take j) = L at *
            go_wp2_with fail
            refine (szPending_any _ _ _ _ _ _ hnj (by omega) (by omega)).mono ?_
            rintro e w1 ⟨rfl, hb1⟩
            have hb2 := hb.trans (hb1.mono hb.size)
            clear hb hb1 g1 g2
            go_wp2
            go_ret
            exact ⟨by rw [HF.out]; rfl, hb2⟩
          · have HR : Hid (szR (left - ps.length - dataP (ps.take j) - zs.length) = left - ps.length - dataP (ps.take (j + 1))) := by rw [szR_pos (by omega), hs]; show _ = _; omega
            have hrl : 0 ≤ szR (left - ps.length - dataP (ps.take j) - zs.length) := by rw [HR.out]; omega
            have hle1 : left - ps.length - dataP (ps.take j) ≤ 1048576 := by omega
            have hl1 : 0 ≤ left - ps.length - dataP (ps.take (j + 1)) := by omega
            clear hs hle
            generalize left - ps.length - dataP (ps.take j) = L at *
            go_wp2_with fail
            refine (szPending_any _ _ _ _ _ _ hnj (by omega) (by omega)).mono ?_
            rintro e w1 ⟨rfl, hb1⟩
            have hb2 := hb.trans (hb1.mono hb.size)
            clear hb hb1 g1 g2
            go_wp2
            go_roundw
            case rel => exact ⟨j + 1, by omega, by go_num, by rw [HR.out], hl1, hb2⟩
            case measure => simp [intOf]; omega
        · have HT : Hid (dataP (ps.take j) = dataP ps) := by rw [List.take_of_length_le (by omega)]; rfl
          have HF : Hid (szR (left - sumP ps) = left - ps.length - dataP (ps.take j)) := by rw [HSD.out, HT.out, szR_pos (by rw [HT.out] at hl0; omega)]; show _ = _; omega
          clear hcell
          go_wp2
          go_ret
          exact ⟨by rw [HF.out]; rfl, hb⟩
    · have hz0 : ps = [] := List.eq_nil_of_length_eq_zero (by omega)
      subst hz0
      have HF : Hid (szR (left - sumP []) = left) := by simp only [sumP, Int.sub_zero]; exact szR_pos h0
      clear hc
      go_enter Try.func53, Try.ntmps53
      go_wp2
      go_loopw [1, 5] (fun l i wr => i = .int .i64 0 ∧ l = .int .i64 left ∧ wr = w) (fun _ _ _ => 0)
      case atStart => exact ⟨rfl, by simp, rfl⟩
      case round =>
        obtain ⟨rfl, rfl, rfl⟩ := hrel
        go_wp2
        go_ret
        exact ⟨by rw [HF.out]; rfl, Below.refl _ _⟩

set_option maxHeartbeats 400000 in
theorem szDevice_any (B : Int) (v : Value) (zs : List Int) (ps : List (Int × List Int)) (left : Int) (w : World) (h : DRead w v B zs ps) (hz : zs.length ≤ 9223372036854775807) (hn : ps.length ≤ 9223372036854775807) (hn2 : ∀ i, (ps.getD i (0, [])).2.length ≤ 9223372036854775807) (h0 : 0 ≤ left) (h1 : left ≤ 1048576) :
    Calls Try.prog 25 #[v, .int .i64 left] w fun e w' => e = .returned (.int .i64 (szR (left - zs.length - sumP ps))) ∧ Below w.heap.size w w' := by
  obtain ⟨da, dc, ca, cc, rfl, k1, k2⟩ := h
  have hb := (Below.refl w.heap.size w).alloc (Nat.le_refl _) (.cells #[.int .i64 B, .slice da zs.length dc, .slice ca ps.length cc] 50)
  have k3 := k2.below hb
  have hs0 := sumP_nonneg ps
  by_cases hlt : left - zs.length < 0
  · have hr := szR_neg hlt
    have HF : Hid (szR (left - zs.length - sumP ps) = -1) := szR_neg (by omega)
    go_enter Try.func25, Try.ntmps25
    go_wp2_with fail
    refine (szByteS_any _ _ _ _ _ hz h0 h1).mono ?_
    rintro e w' ⟨rfl, rfl⟩
    go_wp2
    go_ret
    exact ⟨by rw [HF.out]; rfl, hb⟩
  · have HR : Hid (szR (left - zs.length) = left - zs.length) := szR_pos (by omega)
    have hr1 : 0 ≤ szR (left - zs.length) := by rw [HR.out]; omega
    have hr2 : szR (left - zs.length) ≤ 1048576 := by rw [HR.out]; omega
    by_cases hneg : left - zs.length - sumP ps < 0
    · have HF : Hid (szR (left - zs.length - sumP ps) = -1) := szR_neg hneg
      have hf : szR (szR (left - zs.length) - sumP ps) < 0 := by rw [HR.out, HF.out]; omega
      go_enter Try.func25, Try.ntmps25
      go_wp2_with fail
      refine (szByteS_any _ _ _ _ _ hz h0 h1).mono ?_
      rintro e w' ⟨rfl, rfl⟩
      go_wp2_with fail
      refine (szPendingS_any _ ps _ _ k3 hn hn2 hr1 hr2).mono ?_
      rintro e w' ⟨rfl, hb1⟩
      have hb2 := hb.trans (hb1.mono hb.size)
      clear hb1 k3
      go_wp2
      go_ret
      exact ⟨by rw [HF.out]; rfl, hb2⟩
    · have HF : Hid (szR (left - zs.length - sumP ps) = szR (szR (left - zs.length) - sumP ps)) := by rw [HR.out]; rfl
      have hf : 0 ≤ szR (szR (left - zs.length) - sumP ps) := by rw [HR.out, szR_pos (by omega)]; omega
      go_enter Try.func25, Try.ntmps25
      go_wp2_with fail
      refine (szByteS_any _ _ _ _ _ hz h0 h1).mono ?_
      rintro e w' ⟨rfl, rfl⟩
      go_wp2_with fail
      refine (szPendingS_any _ ps _ _ k3 hn hn2 hr1 hr2).mono ?_
      rintro e w' ⟨rfl, hb1⟩
      have hb2 := hb.trans (hb1.mono hb.size)
      clear hb1 k3
      go_wp2
      go_ret
      exact ⟨by rw [HF.out]; rfl, hb2⟩
end Go.Proofs.Ytbadedhliplkeaa

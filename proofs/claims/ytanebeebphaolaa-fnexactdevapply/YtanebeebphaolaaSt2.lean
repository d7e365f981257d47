import Derived.Test.YtanebeebphaolaaSt1
namespace Go.Proofs.Ytanebeebphaolaa
open Go.RowKit

set_option maxHeartbeats 400000 in
theorem szStep_any (q q2 : Int) (a : Option Addr) (n cap : Nat) (left : Int) (w : World) (hn : n ≤ 9223372036854775807) (h0 : 0 ≤ left) (h1 : left ≤ 1048576) :
    Calls Try.prog 63 #[.agg #[.int .i64 q, .int .i64 q2, .slice a n cap], .int .i64 left] w fun e w' => e = .returned (.int .i64 (szR (left - n))) ∧ Below w.heap.size w w' := by
  have hb := (Below.refl w.heap.size w).alloc (Nat.le_refl _) (.cells #[.int .i64 q, .int .i64 q2, .slice a n cap] 90)
  by_cases hlt : left - n < 0
  · have hr := szR_neg hlt
    go_enter Try.func63, Try.ntmps63
    go_wp2_with fail
    refine (szByteS_any _ _ _ _ _ hn h0 h1).mono ?_
    rintro e w' ⟨rfl, rfl⟩
    go_wp2
    go_ret
    exact ⟨by rw [hr]; rfl, hb⟩
  · have HR : Hid (szR (left - n) = left - n) := szR_pos (by omega)
    have h2 : 0 ≤ szR (left - n) := by rw [HR.out]; omega
    go_enter Try.func63, Try.ntmps63
    go_wp2_with fail
    refine (szByteS_any _ _ _ _ _ hn h0 h1).mono ?_
    rintro e w' ⟨rfl, rfl⟩
    go_wp2
    go_ret
    exact ⟨rfl, hb⟩

/-- the bytes of ss -/
def dataS : List (Int × Int × List Int) → Int
  | [] => 0
  | s :: r => s.2.2.length + dataS r
def sumS (ss : List (Int × Int × List Int)) : Int := ss.length + dataS ss

theorem dataS_nonneg (ss : List (Int × Int × List Int)) : 0 ≤ dataS ss := by
  induction ss with
  | nil => simp [dataS]
  | cons s r ih => simp only [dataS]; omega

theorem dataS_take_succ (ss : List (Int × Int × List Int)) (i : Nat) (h : i < ss.length) : dataS (ss.take (i + 1)) = dataS (ss.take i) + (ss.getD i (0, 0, [])).2.2.length := by
  induction ss generalizing i with
  | nil => simp at h
  | cons s r ih =>
    match i with
    | 0 => simp [dataS]
    | i + 1 =>
      have := ih i (by simpa using h)
      simp only [List.take_succ_cons, dataS, List.getD_cons_succ] at this ⊢
      omega

theorem dataS_take_le (ss : List (Int × Int × List Int)) (i : Nat) : dataS (ss.take i) ≤ dataS ss := by
  induction ss generalizing i with
  | nil => simp
  | cons s r ih =>
    match i with
    | 0 => have := dataS_nonneg (s :: r); simpa [dataS] using this
    | i + 1 =>
      have := ih i
      simp only [List.take_succ_cons, dataS] at this ⊢
      omega

theorem dataS_el (ss : List (Int × Int × List Int)) (i : Nat) : ((ss.getD i (0, 0, [])).2.2.length : Int) ≤ dataS ss := by
  by_cases h : i < ss.length
  · have h1 := dataS_take_succ ss i h
    have h2 := dataS_take_le ss (i + 1)
    have h3 := dataS_nonneg (ss.take i)
    omega
  · have := dataS_nonneg ss
    simp [h]; exact this

set_option maxHeartbeats 2000000 in
theorem szStepS_any (v : Value) (ss : List (Int × Int × List Int)) (left : Int) (w : World) (hv : SRead w v ss) (hn : ss.length ≤ 9223372036854775807) (hn2 : ∀ i, (ss.getD i (0, 0, [])).2.2.length ≤ 9223372036854775807) (h0 : 0 ≤ left) (h1 : left ≤ 1048576) :
    Calls Try.prog 32 #[v, .int .i64 left] w fun e w' => e = .returned (.int .i64 (szR (left - sumS ss))) ∧ Below w.heap.size w w' := by
  obtain ⟨a, cap, rfl, hc⟩ := hv
  have hd0 := dataS_nonneg ss
  have hsd : sumS ss = ss.length + dataS ss := rfl
  by_cases hlt : left - ss.length < 0
  · rw [szR_neg (by omega)]
    clear hc hsd
    go_enter Try.func32, Try.ntmps32
    go_wp2
    go_ret
    exact ⟨rfl, Below.refl _ _⟩
  · have h2 : 0 ≤ left - ss.length := by omega
    have HSD : Hid (sumS ss = ss.length + dataS ss) := hsd
    clear hsd
    by_cases hz : 0 < ss.length
    · obtain ⟨b, off, rfl, hcell⟩ := hc hz
      clear hc
      go_enter Try.func32, Try.ntmps32
      go_wp2
      go_loopw [1, 5] (fun l i wr => ∃ j : Nat, j ≤ ss.length ∧ i = .int .i64 j ∧ l = .int .i64 (left - ss.length - dataS (ss.take j)) ∧ 0 ≤ left - ss.length - dataS (ss.take j) ∧ Below w.heap.size w wr) (fun _ i _ => ss.length - (intOf i).toNat)
      case atStart => exact ⟨0, Nat.zero_le _, rfl, by simp [dataS], by simpa [dataS] using h2, Below.refl _ _⟩
      case round =>
        obtain ⟨j, hj, rfl, rfl, hl0, hb⟩ := hrel
        have hdj := dataS_nonneg (ss.take j)
        by_cases hjl : j < ss.length
        · obtain ⟨da, dc, g1, g2, g4, g3⟩ := hcell j hjl
          have hbw := World.block_lt_of_cell? _ _ g1
          rw [← hb.cell (p := ⟨b, off + j * 3, none⟩) hbw] at g1
          rw [← hb.cell (p := ⟨b, off + j * 3 + 1, none⟩) hbw] at g2
          rw [← hb.cell (p := ⟨b, off + j * 3 + 2, none⟩) hbw] at g4
          have hs := dataS_take_succ ss j hjl
          have hle := dataS_take_le ss (j + 1)
          have hnj := hn2 j
          generalize ss.getD j (0, 0, []) = p at g1 g2 g4 g3 hs hnj
          obtain ⟨q, q2, zs⟩ := p
          simp only at g1 g2 g4 g3 hs hnj
          clear hcell g3
          by_cases hneg : left - ss.length - dataS (ss.take j) - zs.length < 0
          · have hr := szR_neg hneg
            have HF : Hid (szR (left - sumS ss) = -1) := by rw [HSD.out]; exact szR_neg (by omega)
            have hle1 : left - ss.length - dataS (ss.take j) ≤ 1048576 := by omega
            have HR : Hid (szR (left - ss.length - dataS (ss.take j) - zs.length) = -1) := hr
            have hrl : szR (left - ss.length - dataS (ss.take j) - zs.length) < 0 := by rw [hr]; omega
            clear hs hle hr
            generalize left - ss.length - dataS (ss.take j) = L at *
            go_wp2_with fail
            refine (szStep_any _ _ _ _ _ _ _ hnj (by omega) (by omega)).mono ?_
            rintro e w1 ⟨rfl, hb1⟩
            have hb2 := hb.trans (hb1.mono hb.size)
            clear hb hb1 g1 g2 g4
            go_wp2
            go_ret
            exact ⟨by rw [HF.out]; rfl, hb2⟩
          · have HR : Hid (szR (left - ss.length - dataS (ss.take j) - zs.length) = left - ss.length - dataS (ss.take (j + 1))) := by rw [szR_pos (by omega), hs]; show _ = _; omega
            have hrl : 0 ≤ szR (left - ss.length - dataS (ss.take j) - zs.length) := by rw [HR.out]; omega
            have hle1 : left - ss.length - dataS (ss.take j) ≤ 1048576 := by omega
            have hl1 : 0 ≤ left - ss.length - dataS (ss.take (j + 1)) := by omega
            clear hs hle
            generalize left - ss.length - dataS (ss.take j) = L at *
            go_wp2_with fail
            refine (szStep_any _ _ _ _ _ _ _ hnj (by omega) (by omega)).mono ?_
            rintro e w1 ⟨rfl, hb1⟩
            have hb2 := hb.trans (hb1.mono hb.size)
            clear hb hb1 g1 g2 g4
            go_wp2
            go_roundw
            case rel => exact ⟨j + 1, by omega, by go_num, by rw [HR.out], hl1, hb2⟩
            case measure => simp [intOf]; omega
        · have HT : Hid (dataS (ss.take j) = dataS ss) := by rw [List.take_of_length_le (by omega)]; rfl
          have HF : Hid (szR (left - sumS ss) = left - ss.length - dataS (ss.take j)) := by rw [HSD.out, HT.out, szR_pos (by rw [HT.out] at hl0; omega)]; show _ = _; omega
          clear hcell
          go_wp2
          go_ret
          exact ⟨by rw [HF.out]; rfl, hb⟩
    · have hz0 : ss = [] := List.eq_nil_of_length_eq_zero (by omega)
      subst hz0
      have HF : Hid (szR (left - sumS []) = left) := by simp only [sumS, dataS]; simp; exact szR_pos h0
      clear hc
      go_enter Try.func32, Try.ntmps32
      go_wp2
      go_loopw [1, 5] (fun l i wr => i = .int .i64 0 ∧ l = .int .i64 left ∧ wr = w) (fun _ _ _ => 0)
      case atStart => exact ⟨rfl, by simp, rfl⟩
      case round =>
        obtain ⟨rfl, rfl, rfl⟩ := hrel
        go_wp2
        go_ret
        exact ⟨by rw [HF.out]; rfl, Below.refl _ _⟩

end Go.Proofs.Ytanebeebphaolaa

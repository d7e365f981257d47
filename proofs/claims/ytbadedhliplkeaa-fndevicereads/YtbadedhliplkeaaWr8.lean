import Derived.Test.YtbadedhliplkeaaWr7
namespace Go.Proofs.Ytbadedhliplkeaa

theorem sumP_snoc (ps : List (Int × List Int)) (p : Int × List Int) : sumP (ps ++ [p]) = sumP ps + 1 + p.2.length := by
  induction ps with
  | nil => simp [sumP]
  | cons e r ih => simp only [List.cons_append, sumP, ih]; omega

theorem gZ_length (B : Int) (zs : List Int) (ps : List (Int × List Int)) : (gZ B zs ps).length ≤ zs.length := by
  unfold gZ; split <;> simp

theorem gP_sum (q : Int) (ds : List Int) (B : Int) (zs : List Int) (ps : List (Int × List Int)) : sumP (gP q ds B zs ps) ≤ sumP ps + 1 + ds.length := by
  have h0 := sumP_nonneg ps
  unfold gP wP
  split
  · split
    · rw [sumP_snoc]; simp
    · omega
  · simp only [sumP]; omega

theorem gP_len (q : Int) (ds : List Int) (B : Int) (zs : List Int) (ps : List (Int × List Int)) : (gP q ds B zs ps).length ≤ ps.length + 1 := by
  unfold gP wP
  split
  · split <;> simp
  · simp

theorem gP_small (q : Int) (ds : List Int) (B : Int) (zs : List Int) (ps : List (Int × List Int)) (h : PSmall ps) (hd : ds.length ≤ 1048576) : PSmall (gP q ds B zs ps) := by
  unfold gP wP
  split
  · split
    · rename_i h1 h2
      have h3 := (wC_yes.1 h2).2.2
      refine ⟨by simp; omega, fun i => ?_⟩
      by_cases hi : i < ps.length
      · rw [getD_snoc_lt _ _ _ hi]; exact h.2 i
      · by_cases he : i = ps.length
        · subst he; rw [getD_snoc]; simp only; omega
        · simp [show ps.length + 1 ≤ i by omega]
    · exact h
  · exact ⟨by simp, by simp⟩
end Go.Proofs.Ytbadedhliplkeaa

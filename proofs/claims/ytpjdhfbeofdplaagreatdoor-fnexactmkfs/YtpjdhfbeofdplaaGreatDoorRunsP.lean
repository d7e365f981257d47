import Derived.Test.YtpjdhfbeofdplaaGreatDoorIn
namespace Go.Proofs.YtpjdhfbeofdplaaGreatDoor

/-- at block i a run begins -/
def st (zs : List Int) (i : Nat) : Bool := zs.getD i 0 != 0 && (i == 0 || zs.getD (i - 1) 0 != zs.getD i 0)
/-- how many of the n blocks from i on have i's count, one behind the other -/
def ch (zs : List Int) (i : Nat) : Nat → Nat
  | 0 => 0
  | n + 1 => if ch zs i n = n ∧ zs.getD (i + n) 0 = zs.getD i 0 then n + 1 else ch zs i n
/-- where runs begin, below k -/
def stl (zs : List Int) (k : Nat) : List Nat := (List.range k).filter (st zs)
/-- the runs of the first k blocks -/
def rns (zs : List Int) (k : Nat) : List (Int × Int × Int) := (stl zs k).map fun (i : Nat) => ((i : Int), (ch zs i (k - i) : Int), zs.getD i 0)

theorem stl_succ (zs : List Int) (k : Nat) : stl zs (k + 1) = if st zs k then stl zs k ++ [k] else stl zs k := by
  simp only [stl, List.range_succ, List.filter_append]
  by_cases h : st zs k <;> simp [h]
theorem stl_lt {zs : List Int} {k i : Nat} (h : i ∈ stl zs k) : i < k ∧ st zs i = true := by
  simpa [stl] using h
theorem ch_le (zs : List Int) (i n : Nat) : ch zs i n ≤ n := by
  induction n with
  | zero => simp [ch]
  | succ n ih => simp only [ch]; split <;> omega
theorem ch_full {zs : List Int} {i n : Nat} : ch zs i n = n ↔ ∀ j, j < n → zs.getD (i + j) 0 = zs.getD i 0 := by
  induction n with
  | zero => simp [ch]
  | succ n ih =>
    simp only [ch]
    constructor
    · intro h j hj
      split at h
      · rename_i hc
        by_cases hjn : j = n
        · subst hjn; exact hc.2
        · exact ih.1 hc.1 j (by omega)
      · have := ch_le zs i n; omega
    · intro h
      rw [if_pos ⟨ih.2 fun j hj => h j (by omega), h n (by omega)⟩]
theorem st_iff {zs : List Int} {i : Nat} : st zs i = true ↔ zs.getD i 0 ≠ 0 ∧ (i = 0 ∨ zs.getD (i - 1) 0 ≠ zs.getD i 0) := by
  simp [st]
/-- the last run is open -/
theorem stl_last (zs : List Int) (k : Nat) (h : zs.getD k 0 ≠ 0) : ∃ i, i ≤ k ∧ st zs i = true ∧ stl zs (k + 1) = stl zs i ++ [i] ∧ ∀ j, i ≤ j → j ≤ k → zs.getD j 0 = zs.getD k 0 := by
  induction k with
  | zero =>
    have hs : st zs 0 = true := st_iff.2 ⟨h, .inl rfl⟩
    exact ⟨0, Nat.le_refl _, hs, by rw [stl_succ, if_pos hs], fun j h1 h2 => by rw [show j = 0 by omega]⟩
  | succ k ih =>
    by_cases hs : st zs (k + 1) = true
    · exact ⟨k + 1, Nat.le_refl _, hs, by rw [stl_succ, if_pos hs], fun j h1 h2 => by rw [show j = k + 1 by omega]⟩
    · have he : zs.getD k 0 = zs.getD (k + 1) 0 := by
        have := mt st_iff.2 hs
        simp only [Nat.add_sub_cancel, not_and, not_or, Decidable.not_not] at this
        exact (this h).2
      obtain ⟨i, h1, h2, h3, h4⟩ := ih (by rw [he]; exact h)
      refine ⟨i, by omega, h2, by rw [stl_succ, if_neg hs, h3], fun j g1 g2 => ?_⟩
      by_cases hj : j = k + 1
      · rw [hj]
      · rw [h4 j g1 (by omega), he]
/-- a run that began earlier and does not go on at k stays as it is -/
theorem ch_stays {zs : List Int} {i k : Nat} (h : i < k) (hn : ¬ ∀ j, i ≤ j → j ≤ k → zs.getD j 0 = zs.getD i 0) : ch zs i (k + 1 - i) = ch zs i (k - i) := by
  rw [show k + 1 - i = (k - i) + 1 by omega]
  simp only [ch]
  rw [if_neg]
  rintro ⟨h1, h2⟩
  refine hn fun j g1 g2 => ?_
  by_cases hj : j = k
  · rw [hj, show k = i + (k - i) by omega]; exact h2
  · have := ch_full.1 h1 (j - i) (by omega)
    rwa [show i + (j - i) = j by omega] at this
theorem ch_one (zs : List Int) (i : Nat) : ch zs i 1 = 1 := by simp [ch]
/-- no count -/
theorem rns_zero (zs : List Int) (k : Nat) (h : zs.getD k 0 = 0) : rns zs (k + 1) = rns zs k := by
  have hs : st zs k ≠ true := fun e => (st_iff.1 e).1 h
  simp only [rns, stl_succ, if_neg hs]
  refine List.map_congr_left fun i hi => ?_
  obtain ⟨h1, h2⟩ := stl_lt hi
  rw [ch_stays h1 fun g => (st_iff.1 h2).1 (by rw [← g k (by omega) (Nat.le_refl _)]; exact h)]
/-- a run begins -/
theorem rns_new (zs : List Int) (k : Nat) (h : zs.getD k 0 ≠ 0) (hn : k = 0 ∨ zs.getD (k - 1) 0 ≠ zs.getD k 0) : rns zs (k + 1) = rns zs k ++ [((k : Int), 1, zs.getD k 0)] := by
  have hs : st zs k = true := st_iff.2 ⟨h, hn⟩
  simp only [rns, stl_succ, if_pos hs, List.map_append, List.map_cons, List.map_nil]
  rw [show k + 1 - k = 1 by omega, ch_one]
  congr 1
  refine List.map_congr_left fun i hi => ?_
  obtain ⟨h1, h2⟩ := stl_lt hi
  rw [ch_stays h1 fun g => ?_]
  rcases hn with rfl | hn
  · omega
  · exact hn (by rw [g (k - 1) (by omega) (by omega), g k (by omega) (by omega)])
/-- the last run goes on -/
theorem rns_more (zs : List Int) (k : Nat) (h : zs.getD (k + 1) 0 ≠ 0) (he : zs.getD k 0 = zs.getD (k + 1) 0) :
    ∃ (pre : List (Int × Int × Int)) (a b c : Int), rns zs (k + 1) = pre ++ [(a, b, c)] ∧ rns zs (k + 1 + 1) = pre ++ [(a, b + 1, c)] ∧ 0 ≤ b ∧ b ≤ k + 1 := by
  obtain ⟨i, h1, h2, h3, h4⟩ := stl_last zs k (by rw [he]; exact h)
  have hs : st zs (k + 1) ≠ true := fun e => by
    rcases (st_iff.1 e).2 with g | g
    · omega
    · exact g he
  have hall : ∀ j, j < k + 1 - i → zs.getD (i + j) 0 = zs.getD i 0 := fun j hj => by rw [h4 (i + j) (by omega) (by omega), h4 i (by omega) h1]
  have hc : ch zs i (k + 1 - i) = k + 1 - i := ch_full.2 hall
  have hc2 : ch zs i (k + 1 + 1 - i) = k + 1 - i + 1 := by
    rw [show k + 1 + 1 - i = (k + 1 - i) + 1 by omega]
    refine ch_full.2 fun j hj => ?_
    by_cases hj' : j = k + 1 - i
    · rw [hj', show i + (k + 1 - i) = k + 1 by omega, ← he, h4 i (by omega) h1]
    · exact hall j (by omega)
  refine ⟨(stl zs i).map fun (q : Nat) => ((q : Int), (ch zs q (k + 1 - q) : Int), zs.getD q 0), (i : Int), ((k + 1 - i : Nat) : Int), zs.getD i 0, ?_, ?_, by omega, by omega⟩
  · simp only [rns, h3, List.map_append, List.map_cons, List.map_nil, hc]
  · rw [rns, stl_succ, if_neg hs, h3]
    simp only [List.map_append, List.map_cons, List.map_nil, hc2]
    congr 1
    refine List.map_congr_left fun q hq => ?_
    obtain ⟨g1, g2⟩ := stl_lt hq
    rw [ch_stays (show q < k + 1 by omega) fun g => ?_]
    rcases (st_iff.1 h2).2 with e | e
    · omega
    · exact e (by rw [g (i - 1) (by omega) (by omega), g i (by omega) (by omega)])
theorem rns_length (zs : List Int) (k : Nat) : (rns zs k).length ≤ k := by
  simp only [rns, List.length_map, stl]
  exact Nat.le_trans (List.length_filter_le _ _) (by simp)

/-- what the specification's inner loop tells -/
theorem ch_stop {zs : List Int} {i m : Nat} (h : ch zs i m = m) (hn : zs.getD (i + m) 0 ≠ zs.getD i 0) : ∀ n, ch zs i (m + n) = m
  | 0 => h
  | n + 1 => by
    have ih := ch_stop h hn n
    rw [show m + (n + 1) = (m + n) + 1 by omega]
    simp only [ch]
    rw [if_neg, ih]
    rintro ⟨h1, h2⟩
    rw [ih] at h1
    exact hn (by rw [show m + n = m by omega] at h2; exact h2)
/-- the specification's runs, those that begin below k, of n blocks -/
def srn (zs : List Int) (n k : Nat) : List (Int × Int × Int) := (stl zs k).map fun (i : Nat) => ((i : Int), (ch zs i (n - i) : Int), zs.getD i 0)
theorem srn_end (zs : List Int) (n : Nat) : srn zs n n = rns zs n := rfl
theorem srn_no (zs : List Int) (n k : Nat) (h : st zs k = false) : srn zs n (k + 1) = srn zs n k := by simp [srn, stl_succ, h]
theorem srn_yes (zs : List Int) (n k : Nat) (h : st zs k = true) : srn zs n (k + 1) = srn zs n k ++ [((k : Int), (ch zs k (n - k) : Int), zs.getD k 0)] := by simp [srn, stl_succ, h]
theorem srn_length (zs : List Int) (n k : Nat) : (srn zs n k).length ≤ k := by
  simp only [srn, List.length_map, stl]
  exact Nat.le_trans (List.length_filter_le _ _) (by simp)
end Go.Proofs.YtpjdhfbeofdplaaGreatDoor

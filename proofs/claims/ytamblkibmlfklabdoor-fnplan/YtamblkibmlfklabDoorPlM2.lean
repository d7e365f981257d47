import Derived.Test.YtamblkibmlfklabDoorPlM1
import Derived.Test.YtamblkibmlfklabDoorPl1
import Derived.Test.YtamblkibmlfklabDoorLawLow
import Derived.Test.YtamblkibmlfklabDoorCls
import Derived.Test.YtamblkibmlfklabDoorRs
namespace Go.Proofs.YtamblkibmlfklabDoor

/-- the free blocks, as numbers -/
def frN (zs ys : List Int) (n : Nat) : List Nat := (List.range n).filter fun i => decide (2 ≤ i) && isF zs ys i
theorem frs_frN (zs ys : List Int) (n k : Nat) (hk : k ≤ n) : (frs zs ys n k).map (·.1) = (List.range k).filter fun i => decide (2 ≤ i) && isF zs ys i := by
  induction k with
  | zero => rfl
  | succ k ih =>
    rw [List.range_succ, List.filter_append]
    by_cases h : 2 ≤ k ∧ k < n ∧ isF zs ys k = true
    · rw [frs_yes zs ys n k ⟨h.1, h.2.1⟩ h.2.2, List.map_append, ih (by omega)]
      simp [h.1, h.2.2]
    · rw [frs_no zs ys n k h, ih (by omega)]
      have : (decide (2 ≤ k) && isF zs ys k) = false := by
        cases hf : isF zs ys k
        · simp
        · have : ¬ 2 ≤ k := fun h2 => h ⟨h2, by omega, hf⟩
          simp [this]
      simp [this]
theorem frs_frN' (zs ys : List Int) (n : Nat) : (frs zs ys n n).map (·.1) = frN zs ys n := frs_frN zs ys n n (Nat.le_refl _)
theorem frN_nodup (zs ys : List Int) (n : Nat) : (frN zs ys n).Pairwise (· < ·) := (List.pairwise_lt_range (n := n)).filter _
theorem frN_lt {zs ys : List Int} {n x : Nat} (h : x ∈ frN zs ys n) : 2 ≤ x ∧ x < n ∧ zs.getD x 0 = 0 ∧ ys.getD x 0 = 0 := by
  simp only [frN, List.mem_filter, List.mem_range, Bool.and_eq_true, decide_eq_true_eq, isF, beq_iff_eq] at h
  exact ⟨h.2.1, h.1, h.2.2.1, h.2.2.2⟩
theorem low_frN (zs ys : List Int) : low zs ys = ((frN zs ys zs.length).headD 0 : Nat) := by
  rcases low_cases zs ys with ⟨h1, h2⟩ | ⟨x, t, h1, h2⟩
  · rw [h2, ← frs_frN', h1]; rfl
  · rw [h2, ← frs_frN', h1]; rfl

theorem getD_set (zs : List Int) (x i : Nat) (v : Int) (hx : x < zs.length) : (zs.set x v).getD i 0 = if i = x then v else zs.getD i 0 := by
  by_cases h : i = x
  · subst h; simp [hx]
  · simp only [List.getD_eq_getElem?_getD, List.getElem?_set, if_neg h]
    rw [if_neg (fun e => h e.symm)]

/-- the next free block once the lowest has a count -/
theorem frN_next {zs ys : List Int} {n x : Nat} {t : List Nat} (hn : n = zs.length) (h : frN zs ys n = x :: t) : frN (zs.set x 1) ys n = t := by
  have hx := frN_lt (zs := zs) (ys := ys) (n := n) (x := x) (by rw [h]; simp)
  have hnd := frN_nodup zs ys n
  rw [h, List.pairwise_cons] at hnd
  have e : frN (zs.set x 1) ys n = (frN zs ys n).filter fun i => i != x := by
    unfold frN
    rw [List.filter_filter]
    refine List.filter_congr fun i hi => ?_
    have hi' := List.mem_range.1 hi
    unfold isF
    rw [getD_set _ _ _ _ (by omega)]
    by_cases he : i = x
    · subst he; simp
    · simp [he]
  rw [e, h, List.filter_cons, if_neg (by simp)]
  refine List.filter_eq_self.2 fun a ha => ?_
  have := hnd.1 a ha
  simp; omega

theorem ones_frN {zs ys : List Int} {k : Nat} (hk : k ≤ (frs zs ys zs.length zs.length).length) : frN (ones zs ((frs zs ys zs.length zs.length).take k)) ys zs.length = (frN zs ys zs.length).drop k := by
  induction k with
  | zero => simp [ones]
  | succ k ih =>
    have hkl : k < (frs zs ys zs.length zs.length).length := by omega
    rw [List.take_succ_eq_append_getElem hkl, ones_snoc]
    have hl : (frN zs ys zs.length).length = (frs zs ys zs.length zs.length).length := by rw [← frs_frN']; simp
    have hd : (frN zs ys zs.length).drop k = (frs zs ys zs.length zs.length)[k].1 :: (frN zs ys zs.length).drop (k + 1) := by
      rw [List.drop_eq_getElem_cons (by omega)]
      congr 1
      simp only [← frs_frN', List.getElem_map]
    refine frN_next (by rw [ones_length]) ?_
    rw [ih (by omega), hd]

/-- what LowestFree tells of the counts with the first k blocks of the plan -/
theorem low_ones {zs ys : List Int} {k : Nat} (hk : k < (frs zs ys zs.length zs.length).length) : low (ones zs ((frs zs ys zs.length zs.length).take k)) ys = ((frs zs ys zs.length zs.length)[k].1 : Int) := by
  have hl : (frN zs ys zs.length).length = (frs zs ys zs.length zs.length).length := by rw [← frs_frN']; simp
  rw [low_frN, ones_length, ones_frN (by omega), List.drop_eq_getElem_cons (by omega)]
  simp only [List.headD_cons, ← frs_frN', List.getElem_map]

theorem frs_free {zs ys : List Int} {k : Nat} (hk : k < (frs zs ys zs.length zs.length).length) : zs.getD (frs zs ys zs.length zs.length)[k].1 0 = 0 ∧ ys.getD (frs zs ys zs.length zs.length)[k].1 0 = 0 := by
  have : (frs zs ys zs.length zs.length)[k].1 ∈ frN zs ys zs.length := by
    rw [← frs_frN']; exact List.mem_map_of_mem (List.getElem_mem hk)
  exact (frN_lt this).2.2

theorem CtsOk.set {zs : List Int} (h : CtsOk zs) {x : Nat} (h2 : 2 ≤ x) (hx : x < zs.length) : CtsOk (zs.set x 1) := by
  refine ⟨by simp [h.lo], by simp [h.hi], fun i => ?_, ?_, ?_⟩
  · rw [getD_set _ _ _ _ hx]
    split
    · omega
    · exact h.num i
  · rw [getD_set _ _ _ _ hx, if_neg (by omega)]; exact h.z0
  · rw [getD_set _ _ _ _ hx, if_neg (by omega)]; exact h.z1
theorem CtsOk.ones {zs : List Int} (h : CtsOk zs) (fr : List (Blk zs.length)) : CtsOk (ones zs fr) := by
  suffices ∀ (us : List Int), CtsOk us → us.length = zs.length → CtsOk (Go.Proofs.YtamblkibmlfklabDoor.ones us fr) from this zs h rfl
  induction fr with
  | nil => exact fun us hu _ => hu
  | cons x l ih => exact fun us hu hl => ih (us.set x.1 1) (hu.set x.2.1 (by have := x.2.2; omega)) (by simp [hl])
theorem chk_cts {zs : List Int} (h : chk [zs] = 0) : CtsOk zs := by
  obtain ⟨h1, h2, h3, h4⟩ := chk_ok h
  exact ⟨h1.1, h1.2, h2, h3, h4⟩
theorem cts_chk {zs : List Int} (h : CtsOk zs) : chk [zs] = 0 := by
  rw [chk_one]
  have h1 := h.lo
  have h2 := h.hi
  have e1 : inB zs.length 8 512 = true := inB_true (by omega)
  have e2 : badNum zs = false := by
    unfold badNum
    rw [List.any_eq_false]
    intro z hz
    obtain ⟨i, hi, rfl⟩ := List.mem_iff_getElem.1 hz
    have := h.num i
    simp only [List.getD_eq_getElem?_getD, List.getElem?_eq_getElem hi, Option.getD_some] at this
    simp [inB, this]
  have e3 : badHd zs = false := by
    have a := h.z0
    have b := h.z1
    simp only [badHd, a, b]; rfl
  rw [if_neg (by rw [e1]; simp), if_neg (by rw [e2]; simp), if_neg (by rw [e3]; simp)]
theorem chk_two_mk {zs ys : List Int} (h1 : CtsOk zs) (h2 : CtsOk ys) (hl : zs.length = ys.length) : chk [zs, ys] = 0 := by
  rw [chk_two _ _ hl, cts_chk h1, cts_chk h2]; rfl

/-- runs are at most two fewer than blocks -/
theorem rns_two {zs : List Int} (h : CtsOk zs) : (rns zs zs.length).length ≤ zs.length - 2 := by
  rw [rns_len]
  have a : st zs 0 = false := by
    cases e : st zs 0
    · rfl
    · have := h.two e; omega
  have b : st zs 1 = false := by
    cases e : st zs 1
    · rfl
    · have := h.two e; omega
  have hs : ∀ d, (stl zs (d + 2)).length ≤ d := by
    intro d
    induction d with
    | zero => simp [stl, List.range_succ, a, b]
    | succ d ih =>
      rw [show d + 1 + 2 = (d + 2) + 1 by omega, stl_succ]
      split
      · simp; omega
      · omega
  have := hs (zs.length - 2)
  rwa [show zs.length - 2 + 2 = zs.length by have := h.lo; omega] at this
/-- the reserve always serves -/
theorem plan_reserve {zs ys : List Int} (h : chk [zs, ys] = 0) (hk : planK zs ys = none) : ((frs zs ys zs.length zs.length).length : Int) < resv zs.length := by
  obtain ⟨hl, c1, c2⟩ := chk_two_ok h
  have h1 := chk_cts c1
  have hlo := h1.lo
  have hhi := h1.hi
  have hr : resv zs.length = ((zs.length : Int) + 17) / 20 := if_pos (by omega)
  rw [hr]
  refine Int.lt_of_not_ge fun hc => ?_
  have hj : (zs.length + 17) / 20 - 1 < (frs zs ys zs.length zs.length).length := by omega
  have hn := List.find?_range_eq_none.1 hk ((zs.length + 17) / 20 - 1) hj
  have hg : good zs ((frs zs ys zs.length zs.length).take ((zs.length + 17) / 20 - 1 + 1)) = true := by
    unfold good
    rw [decide_eq_true_eq, List.length_take]
    have hb := rns_two (h1.ones ((frs zs ys zs.length zs.length).take ((zs.length + 17) / 20 - 1 + 1)))
    rw [ones_length] at hb
    unfold rnO
    omega
  rw [hg] at hn
  simp at hn

/-- how many of the first n classes are 'free' -/
def nFree (zs ys : List Int) (n : Nat) : Nat := ((List.range n).filter fun i => cls i (zs.getD i 0) (ys.getD i 0) == 4).length
theorem filt_succ (p : Nat → Bool) (n : Nat) : ((List.range (n + 1)).filter p).length = if p n = true then ((List.range n).filter p).length + 1 else ((List.range n).filter p).length := by
  rw [List.range_succ, List.filter_append]
  cases h : p n <;> simp [h]
theorem nFree_succ (zs ys : List Int) (n : Nat) : nFree zs ys (n + 1) = if cls n (zs.getD n 0) (ys.getD n 0) = 4 then nFree zs ys n + 1 else nFree zs ys n := by
  unfold nFree
  rw [filt_succ]
  simp only [beq_iff_eq]
theorem nFree_le (zs ys : List Int) (n : Nat) : nFree zs ys n ≤ n := by
  unfold nFree
  exact Nat.le_trans (List.length_filter_le _ _) (by simp)
theorem nFree_end {zs ys : List Int} (h1 : CtsOk zs) (h2 : CtsOk ys) : nFree zs ys zs.length = (frs zs ys zs.length zs.length).length := by
  have e : (frs zs ys zs.length zs.length).length = (frN zs ys zs.length).length := by rw [← frs_frN']; simp
  rw [e]
  unfold nFree frN
  congr 1
  refine List.filter_congr fun i _ => ?_
  have a := h1.num i
  have b := h2.num i
  unfold cls isF
  by_cases g1 : i < 2
  · simp [g1]; omega
  · have g1' : 2 ≤ i := by omega
    by_cases g2 : 0 < zs.getD i 0
    · have e : (zs.getD i 0 == 0) = false := by rw [beq_eq_false_iff_ne]; omega
      rw [if_neg g1, if_pos g2, e]; simp
    · by_cases g3 : 0 < ys.getD i 0
      · have e : (ys.getD i 0 == 0) = false := by rw [beq_eq_false_iff_ne]; omega
        rw [if_neg g1, if_neg g2, if_pos g3, e]; simp
      · have q1 : zs.getD i 0 = 0 := by omega
        have q2 : ys.getD i 0 = 0 := by omega
        rw [if_neg g1, if_neg g2, if_neg g3, q1, q2]
        simp [g1']
/-- the plan's number is the least -/
theorem plan_least {zs ys : List Int} {j k : Nat} (hk : planK zs ys = some j) (h : k < j) : good zs ((frs zs ys zs.length zs.length).take (k + 1)) = false := by
  have := (List.find?_range_eq_some.1 hk).2.2 k h
  simpa using this
theorem plan_good {zs ys : List Int} {j : Nat} (hk : planK zs ys = some j) : j < (frs zs ys zs.length zs.length).length ∧ good zs ((frs zs ys zs.length zs.length).take (j + 1)) = true := by
  obtain ⟨h1, h2, _⟩ := List.find?_range_eq_some.1 hk
  exact ⟨List.mem_range.1 h2, h1⟩
end Go.Proofs.YtamblkibmlfklabDoor

import Derived.Test.YtamblkibmlfklabDoorCt7
import Derived.Test.YtamblkibmlfklabDoorRunsP
namespace Go.Proofs.YtamblkibmlfklabDoor

/-- a run is as long as it can be -/
theorem ch_spec (zs : List Int) (i : Nat) : ∀ m, (∀ j, j < ch zs i m → zs.getD (i + j) 0 = zs.getD i 0) ∧ (ch zs i m < m → zs.getD (i + ch zs i m) 0 ≠ zs.getD i 0)
  | 0 => ⟨fun j hj => by simp [ch] at hj, fun h => by simp [ch] at h⟩
  | m + 1 => by
    have ih := ch_spec zs i m
    by_cases hc : ch zs i m = m ∧ zs.getD (i + m) 0 = zs.getD i 0
    · have he : ch zs i (m + 1) = m + 1 := by simp only [ch]; rw [if_pos hc]
      rw [he]
      refine ⟨fun j hj => ?_, fun h => by omega⟩
      by_cases hj' : j = m
      · rw [hj']; exact hc.2
      · exact ih.1 j (by omega)
    · have he : ch zs i (m + 1) = ch zs i m := by simp only [ch]; rw [if_neg hc]
      rw [he]
      refine ⟨ih.1, fun h => ?_⟩
      by_cases hm : ch zs i m = m
      · intro e; rw [hm] at e; exact hc ⟨hm, e⟩
      · exact ih.2 (by have := ch_le zs i m; omega)
theorem ch_pos (zs : List Int) (i m : Nat) (h : 0 < m) : 0 < ch zs i m := by
  by_cases h0 : ch zs i m = 0
  · have := (ch_spec zs i m).2 (by omega)
    rw [h0] at this
    exact absurd rfl this
  · omega

theorem stl_pairwise (zs : List Int) (n : Nat) : (stl zs n).Pairwise (· < ·) := (List.pairwise_lt_range (n := n)).filter _
theorem rns_len (zs : List Int) (n : Nat) : (rns zs n).length = (stl zs n).length := by simp [rns]
theorem rns_get (zs : List Int) (n k : Nat) (h : k < (stl zs n).length) : (rns zs n).getD k (0, 0, 0) = ((((stl zs n)[k] : Nat) : Int), (ch zs (stl zs n)[k] (n - (stl zs n)[k]) : Int), zs.getD (stl zs n)[k] 0) := by
  simp [rns, h]
theorem stl_at {zs : List Int} {n k : Nat} (h : k < (stl zs n).length) : (stl zs n)[k] < n ∧ st zs (stl zs n)[k] = true := stl_lt (List.getElem_mem h)
theorem stl_mono {zs : List Int} {n i j : Nat} (hij : i < j) (hj : j < (stl zs n).length) : (stl zs n)[i] < (stl zs n)[j] := List.pairwise_iff_getElem.1 (stl_pairwise zs n) i j (by omega) hj hij

/-- two starts: the later run lies behind the earlier -/
theorem starts_apart {zs : List Int} {n i j : Nat} (hij : i < j) (hj : j < n) (hs : st zs j = true) : i + ch zs i (n - i) ≤ j ∧ (i + ch zs i (n - i) = j → zs.getD j 0 ≠ zs.getD i 0) := by
  have hd := (st_iff.1 hs).2
  have hsp := ch_spec zs i (n - i)
  constructor
  · refine Nat.le_of_not_lt fun hc => ?_
    have h1 := hsp.1 (j - i) (by omega)
    have h2 := hsp.1 (j - 1 - i) (by omega)
    rw [show i + (j - i) = j by omega] at h1
    rw [show i + (j - 1 - i) = j - 1 by omega] at h2
    rcases hd with e | e
    · omega
    · exact e (h2.trans h1.symm)
  · intro he
    have h := hsp.2 (by omega)
    rwa [he] at h

/-- what the counts must keep -/
structure CtsOk (zs : List Int) : Prop where
  lo : 8 ≤ zs.length
  hi : zs.length ≤ 512
  num : ∀ i, 0 ≤ zs.getD i 0 ∧ zs.getD i 0 ≤ 65535
  z0 : zs.getD 0 0 = 0
  z1 : zs.getD 1 0 = 0

theorem CtsOk.two {zs : List Int} (h : CtsOk zs) {i : Nat} (hs : st zs i = true) : 2 ≤ i := by
  have hd := (st_iff.1 hs).1
  match i, hd with
  | 0, hd => exact absurd h.z0 hd
  | 1, hd => exact absurd h.z1 hd
  | i + 2, _ => omega

theorem rns_okT {zs : List Int} (h : CtsOk zs) : okT zs.length (rns zs zs.length) := by
  refine ⟨fun k hk => ?_, fun k hk => ?_⟩
  · rw [rns_len] at hk
    obtain ⟨h1, h2⟩ := stl_at hk
    have hi2 := h.two h2
    have hcp := ch_pos zs (stl zs zs.length)[k] (zs.length - (stl zs zs.length)[k]) (by omega)
    have hcl := ch_le zs (stl zs zs.length)[k] (zs.length - (stl zs zs.length)[k])
    have hnum := h.num (stl zs zs.length)[k]
    have hne := (st_iff.1 h2).1
    have hh := h.hi
    refine ⟨?_, fun hk0 => ?_⟩
    · rw [rns_get _ _ _ hk]
      refine ⟨⟨?_, ?_⟩, ⟨?_, ?_⟩, ?_, ?_, ?_⟩ <;> simp only <;> omega
    · rw [rns_get _ _ _ hk, rns_get _ _ (k - 1) (by omega)]
      have hlt := stl_mono (zs := zs) (n := zs.length) (show k - 1 < k by omega) hk
      obtain ⟨g1, g2⟩ := starts_apart hlt h1 h2
      unfold fol
      simp only
      by_cases he : (stl zs zs.length)[k - 1] + ch zs (stl zs zs.length)[k - 1] (zs.length - (stl zs zs.length)[k - 1]) = (stl zs zs.length)[k]
      · right; exact ⟨by omega, g2 he⟩
      · left; omega
  · rw [rns_len] at hk
    rw [rns_get _ _ _ hk]
    have h1 := (stl_at hk).1
    have hcl := ch_le zs (stl zs zs.length)[k] (zs.length - (stl zs zs.length)[k])
    simp only
    omega

theorem rns_cnt (zs : List Int) (b : Nat) (hb : b < zs.length) : cnt (rns zs zs.length) b (rns zs zs.length).length = zs.getD b 0 := by
  by_cases hz : zs.getD b 0 = 0
  · rw [hz]
    refine cnt_none fun k hk => ?_
    rw [rns_len] at hk
    rw [rns_get _ _ _ hk]
    refine hit_no fun hc => ?_
    simp only at hc
    obtain ⟨h1, h2⟩ := stl_at hk
    have hsp := (ch_spec zs (stl zs zs.length)[k] (zs.length - (stl zs zs.length)[k])).1 (b - (stl zs zs.length)[k]) (by omega)
    rw [show (stl zs zs.length)[k] + (b - (stl zs zs.length)[k]) = b by omega, hz] at hsp
    exact (st_iff.1 h2).1 hsp.symm
  · obtain ⟨i, hi, hs, _, hall⟩ := stl_last zs b hz
    have hmem : i ∈ stl zs zs.length := by simp [stl, hs]; omega
    obtain ⟨m, hm, hme⟩ := List.mem_iff_getElem.1 hmem
    have hsp := ch_spec zs i (zs.length - i)
    have hlong : b < i + ch zs i (zs.length - i) := by
      refine Nat.lt_of_not_le fun hc => ?_
      exact hsp.2 (by omega) (by rw [hall _ (by omega) hc, hall i (Nat.le_refl _) hi])
    have hg : (rns zs zs.length).getD m (0, 0, 0) = ((i : Int), (ch zs i (zs.length - i) : Int), zs.getD i 0) := by rw [rns_get _ _ _ hm, hme]
    have hhit : hit ((rns zs zs.length).getD m (0, 0, 0)) b = true := by
      rw [hg]; unfold hit; simp only [Bool.and_eq_true, decide_eq_true_eq]; omega
    rw [cnt_at hhit (by rw [rns_len]; exact hm) fun k h1 h2 => ?_, hg]
    · exact hall i (Nat.le_refl _) hi
    · rw [rns_len] at h2
      rw [rns_get _ _ _ h2]
      refine hit_no fun hc => ?_
      simp only at hc
      obtain ⟨q1, q2⟩ := stl_at h2
      have hlt := stl_mono (zs := zs) (n := zs.length) h1 h2
      rw [hme] at hlt
      have := (starts_apart hlt q1 q2).1
      omega

/-- CountsOf of RunsOf is the list -/
theorem counts_back {zs : List Int} (h : CtsOk zs) : ctC zs.length (rns zs zs.length) = 0 ∧ ctL zs.length (rns zs zs.length) = zs := by
  have h1 := h.lo
  have h2 := h.hi
  have hc : ctC zs.length (rns zs zs.length) = 0 := ctC_yes (by omega) (by have := rns_length zs zs.length; omega) (rns_okT h)
  refine ⟨hc, ?_⟩
  unfold ctL
  rw [if_pos hc, Int.toNat_natCast]
  refine List.ext_getElem (by rw [cntL_length]) fun i hi1 hi2 => ?_
  simp only [cntL, List.getElem_map, List.getElem_range]
  rw [rns_cnt zs i hi2]
  simp [hi2]
end Go.Proofs.YtamblkibmlfklabDoor

import Derived.Test.YtbadedhliplkeaaDl1
import Derived.Test.YtbadedhliplkeaaAp4
namespace Go.Proofs.Ytbadedhliplkeaa

theorem dOK_parts {B : Int} {zs : List Int} {ps : List (Int × List Int)} (h : dOK B zs ps = true) : 8 ≤ B ∧ B ≤ 512 ∧ (zs.length : Int) = B * 128 ∧ ps.length ≤ 2048 ∧ ∀ i, i < ps.length → pOK B (ps.getD i (0, [])) = true := by
  unfold dOK at h
  exact of_decide_eq_true h
theorem dOK_mk {B : Int} {zs : List Int} {ps : List (Int × List Int)} (h : 8 ≤ B ∧ B ≤ 512 ∧ (zs.length : Int) = B * 128 ∧ ps.length ≤ 2048 ∧ ∀ i, i < ps.length → pOK B (ps.getD i (0, [])) = true) : dOK B zs ps = true := by
  unfold dOK
  exact decide_eq_true h

/-- a block of the disk behind a flush is the youngest write of that block -/
theorem blk_settle {B : Int} {zs : List Int} {ps : List (Int × List Int)} (hok : dOK B zs ps = true) (q : Nat) (hq : (q : Int) < B) : blk (settle zs ps) q = seenIn zs q ps := by
  have hf := fits_of_ok hok
  obtain ⟨h1, h2, h3, h4, h5⟩ := dOK_parts hok
  have hl := settle_length zs ps hf ps.length (Nat.le_refl _)
  rw [List.take_length] at hl
  have hb : (blk (settle zs ps) q).length = 128 := blk_length _ _ (by rw [hl]; omega)
  have hs : (seenIn zs q ps).length = 128 := seenIn_length B q zs ps hok (by omega)
  refine List.ext_getElem (by rw [hb, hs]) fun i i1 i2 => ?_
  have hi : i < 128 := by omega
  have e1 := blk_get (settle zs ps) q i hi
  have e2 := settle_get zs ps hf ps.length (Nat.le_refl _) (q * 128 + i)
  rw [List.take_length, show (q * 128 + i) / 128 = q by omega, show (q * 128 + i) % 128 = i by omega] at e2
  have e3 := e1.trans e2
  simpa [List.getD_eq_getElem?_getD, i1, i2] using e3

/-- a flushed device is valid -/
theorem dOK_settle {B : Int} {zs : List Int} {ps : List (Int × List Int)} (hok : dOK B zs ps = true) : dOK B (settle zs ps) [] = true := by
  obtain ⟨h1, h2, h3, h4, h5⟩ := dOK_parts hok
  have hl := settle_length zs ps (fits_of_ok hok) ps.length (Nat.le_refl _)
  rw [List.take_length] at hl
  exact dOK_mk ⟨h1, h2, by rw [hl]; exact h3, by simp, fun i hi => by simp at hi⟩

/-- so is one behind a write -/
theorem dOK_write {B : Int} {zs : List Int} {ps : List (Int × List Int)} (hok : dOK B zs ps = true) (q : Int) (ds : List Int) : dOK B zs (wP B ps q ds) = true := by
  obtain ⟨h1, h2, h3, h4, h5⟩ := dOK_parts hok
  unfold wP
  by_cases hc : wC B ps.length q ds.length = 0
  · rw [if_pos hc]
    have hc2 := hc
    unfold wC at hc2
    by_cases a1 : inB q 0 (B - 1) = true
    · rw [if_pos a1] at hc2
      by_cases a2 : ds.length = 128
      · rw [if_pos a2] at hc2
        by_cases a3 : ps.length < 2048
        · have a1' : 0 ≤ q ∧ q ≤ B - 1 := by unfold inB at a1; exact of_decide_eq_true a1
          refine dOK_mk ⟨h1, h2, h3, by simp; omega, fun i hi => ?_⟩
          by_cases e : i < ps.length
          · rw [getD_snoc_lt _ _ _ e]; exact h5 i e
          · have e' : i = ps.length := by simp at hi; omega
            subst e'
            rw [getD_snoc]
            unfold pOK
            exact decide_eq_true ⟨a1'.1, by simp only; omega, a2⟩
        · rw [if_neg a3] at hc2; omega
      · rw [if_neg a2] at hc2; omega
    · rw [if_neg a1] at hc2; omega
  · rw [if_neg hc]; exact hok

/-- what a read tells of a valid device -/
theorem rd_in {B : Int} {zs : List Int} {ps : List (Int × List Int)} (hok : dOK B zs ps = true) (q : Nat) (hq : (q : Int) < B) : rdBytes B q zs ps = seenIn zs q ps ∧ rdCode B q zs ps = 0 := by
  have hi : inB (q : Int) 0 (B - 1) = true := inB_true (by omega)
  constructor
  · unfold rdBytes; rw [if_pos hok, if_pos hi]
  · unfold rdCode; rw [if_pos hok, if_pos hi]
/-- a flush changes no read -/
theorem rd_flush {B : Int} {zs : List Int} {ps : List (Int × List Int)} (hok : dOK B zs ps = true) (q : Nat) (hq : (q : Int) < B) : rdBytes B q (settle zs ps) [] = seenIn zs q ps ∧ rdCode B q (settle zs ps) [] = 0 := by
  obtain ⟨e1, e2⟩ := rd_in (dOK_settle hok) q hq
  refine ⟨?_, e2⟩
  rw [e1]
  show blk (settle zs ps) (q : Int).toNat = _
  rw [Int.toNat_natCast]
  exact blk_settle hok q hq
/-- behind a crash a block reads as its youngest surviving write, or as the disk -/
theorem rd_crash {B : Int} {zs : List Int} {ps : List (Int × List Int)} (hok : dOK B zs ps = true) (ks : List Int) (q : Nat) (hq : (q : Int) < B) : rdBytes B q (settle zs (keptTo false ks ps ps.length)) [] = seenIn zs q (keptTo false ks ps ps.length) ∧ rdCode B q (settle zs (keptTo false ks ps ps.length)) [] = 0 :=
  rd_flush (kept_ok hok) q hq

/-- the law's own fold over the survivors -/
theorem kept_fold (zs : List Int) (q : Int) (ks : List Int) (ps : List (Int × List Int)) (k : Nat) : seenIn zs q (keptTo false ks ps (k + 1)) = if kept false ks k = true ∧ (ps.getD k (0, [])).1 = q then (ps.getD k (0, [])).2 else seenIn zs q (keptTo false ks ps k) := by
  rw [keptTo_succ]
  by_cases h : kept false ks k = true
  · rw [if_pos h, seenIn_snoc]
    by_cases e : (ps.getD k (0, [])).1 = q
    · rw [if_pos e, if_pos ⟨h, e⟩]
    · rw [if_neg e, if_neg fun x => e x.2]
  · rw [if_neg h, if_neg fun x => h x.1]
end Go.Proofs.Ytbadedhliplkeaa

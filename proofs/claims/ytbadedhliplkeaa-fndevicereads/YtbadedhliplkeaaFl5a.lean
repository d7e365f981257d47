import Derived.Test.YtbadedhliplkeaaFl4
namespace Go.Proofs.Ytbadedhliplkeaa
open Go.RowKit

/-- the first b blocks behind the writes -/
def cat (zs : List Int) (ps : List (Int × List Int)) (b : Nat) : List Int := (List.range b).flatMap fun (q : Nat) => seenIn zs q ps

theorem cat_succ (zs : List Int) (ps : List (Int × List Int)) (b : Nat) : cat zs ps (b + 1) = cat zs ps b ++ seenIn zs b ps := by
  simp [cat, List.range_succ]

theorem cat_length (zs : List Int) (ps : List (Int × List Int)) (b : Nat) (h : ∀ q : Nat, q < b → (seenIn zs q ps).length = 128) : (cat zs ps b).length = b * 128 := by
  induction b with
  | zero => simp [cat]
  | succ b ih => rw [cat_succ, List.length_append, ih (fun q hq => h q (by omega)), h b (by omega)]; omega

theorem cat_get (zs : List Int) (ps : List (Int × List Int)) (b : Nat) (h : ∀ q : Nat, q < b → (seenIn zs q ps).length = 128) (i : Nat) (hi : i < b * 128) : (cat zs ps b).getD i 0 = (seenIn zs ((i / 128 : Nat) : Int) ps).getD (i % 128) 0 := by
  induction b with
  | zero => omega
  | succ b ih =>
    have hl := cat_length zs ps b (fun q hq => h q (by omega))
    rw [cat_succ]
    simp only [List.getD_eq_getElem?_getD, List.getElem?_append, hl]
    by_cases hlt : i < b * 128
    · rw [if_pos hlt]
      have := ih (fun q hq => h q (by omega)) hlt
      simpa only [List.getD_eq_getElem?_getD] using this
    · rw [if_neg hlt, show i / 128 = b by omega, show i - b * 128 = i % 128 by omega]

theorem settle_get (zs : List Int) (ps : List (Int × List Int)) (hf : Fits zs.length ps) (k : Nat) (hk : k ≤ ps.length) (i : Nat) : (settle zs (ps.take k)).getD i 0 = (seenIn zs ((i / 128 : Nat) : Int) (ps.take k)).getD (i % 128) 0 := by
  induction k with
  | zero =>
    show zs.getD i 0 = (blk zs ((i / 128 : Nat) : Int).toNat).getD (i % 128) 0
    rw [Int.toNat_natCast, blk_get _ _ _ (by omega), show i / 128 * 128 + i % 128 = i by omega]
  | succ k ih =>
    have h0 := ih (by omega)
    obtain ⟨h1, h2, h3⟩ := hf k (by omega)
    rw [settle_take zs ps k (by omega), seenIn_take zs _ ps k (by omega), patch_get _ _ _ h3 (by rw [settle_length zs ps hf k (by omega)]; exact h2)]
    generalize ps.getD k (0, []) = e at h1 h2 h3
    obtain ⟨r, ds⟩ := e
    simp only at h1 h2 h3 ⊢
    by_cases hq : r = ((i / 128 : Nat) : Int)
    · rw [if_pos (by omega), if_pos hq, show i - r.toNat * 128 = i % 128 by omega]
    · rw [if_neg (by omega), if_neg hq, h0]

theorem settle_cat (B : Int) (zs : List Int) (ps : List (Int × List Int)) (hok : dOK B zs ps = true) : cat zs ps B.toNat = settle zs ps := by
  obtain ⟨hB1, hB2, hzl, hpl, hel⟩ := dOK_out hok
  have hf := fits_of_ok hok
  have hs : ∀ q : Nat, q < B.toNat → (seenIn zs q ps).length = 128 := fun q hq => seenIn_length B q zs ps hok (by omega)
  have h1 := cat_length zs ps B.toNat hs
  have h2 := settle_length zs ps hf ps.length (Nat.le_refl _)
  rw [List.take_length] at h2
  have hz : zs.length = B.toNat * 128 := by omega
  apply List.ext_getElem?
  intro i
  by_cases hi : i < zs.length
  · have e1 := cat_get zs ps B.toNat hs i (by omega)
    have e2 := settle_get zs ps hf ps.length (Nat.le_refl _) i
    rw [List.take_length] at e2
    rw [List.getElem?_eq_getElem (by omega), List.getElem?_eq_getElem (by omega)]
    simp only [List.getD_eq_getElem?_getD, List.getElem?_eq_getElem (show i < (cat zs ps B.toNat).length by omega), List.getElem?_eq_getElem (show i < (settle zs ps).length by omega), Option.getD_some] at e1 e2
    rw [e1, e2]
  · rw [List.getElem?_eq_none (by omega), List.getElem?_eq_none (by omega)]

theorem cat_small (zs : List Int) (ps : List (Int × List Int)) (b : Nat) (h : ∀ q i : Nat, q < b → 0 ≤ (seenIn zs q ps).getD i 0 ∧ (seenIn zs q ps).getD i 0 < 256) (hl : ∀ q : Nat, q < b → (seenIn zs q ps).length = 128) (i : Nat) : 0 ≤ (cat zs ps b).getD i 0 ∧ (cat zs ps b).getD i 0 < 256 := by
  by_cases hi : i < b * 128
  · rw [cat_get zs ps b hl i hi]; exact h _ _ (by omega)
  · have : (cat zs ps b).length ≤ i := by rw [cat_length zs ps b hl]; omega
    simp [this]

end Go.Proofs.Ytbadedhliplkeaa

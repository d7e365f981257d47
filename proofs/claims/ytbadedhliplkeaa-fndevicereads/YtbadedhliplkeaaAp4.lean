import Derived.Test.YtbadedhliplkeaaAp2
namespace Go.Proofs.Ytbadedhliplkeaa
open Go.RowKit
set_option linter.unusedVariables false

def aZ (B : Int) (zs : List Int) (ps : List (Int × List Int)) (ss : List (Int × Int × List Int)) (count : Int) : List Int := if dOK B zs ps then (apS B zs ps ss count).1 else []
def aP (B : Int) (zs : List Int) (ps : List (Int × List Int)) (ss : List (Int × Int × List Int)) (count : Int) : List (Int × List Int) := if dOK B zs ps then (apS B zs ps ss count).2.1 else []
def aC (B : Int) (zs : List Int) (ps : List (Int × List Int)) (ss : List (Int × Int × List Int)) (count : Int) : Int := if dOK B zs ps then (apS B zs ps ss count).2.2 else 1

set_option maxHeartbeats 1000000 in
theorem implApply_no (kq kv : Value) (B : Int) (da ca : Option Addr) (dc cc : Nat) (zs : List Int) (ps : List (Int × List Int)) (w : World) (h : DRead w (.agg #[.int .i64 B, .slice da zs.length dc, .slice ca ps.length cc]) B zs ps) (hzl' : zs.length ≤ 1048576) (hpl : ps.length ≤ 1048576) (hel' : ∀ i, (ps.getD i (0, [])).2.length ≤ 1048576) (hok : dOK B zs ps = false) :
    Calls Try.prog 24 #[.agg #[.int .i64 B, .slice da zs.length dc, .slice ca ps.length cc], kq, kv] w fun e w' => e = .returned (.tuple #[.agg #[.int .i64 0, .slice none 0 0, .slice none 0 0], .int .i64 1]) ∧ Below w.heap.size w w' := by
  have hY := Box3.made (w.alloc (.cells #[.int .i64 B, .slice da zs.length dc, .slice ca ps.length cc] 25)) (.int .i64 0) (.slice none 0 0) (.slice none 0 0) 25 (w.heap.size + 1) (by simp)
  have hb0 : Below w.heap.size w ((w.alloc (.cells #[.int .i64 B, .slice da zs.length dc, .slice ca ps.length cc] 25)).alloc (.cells #[.int .i64 0, .slice none 0 0, .slice none 0 0] 25)) := ((Below.refl w.heap.size w).alloc (Nat.le_refl _) _).alloc (by simp) _
  go_enter Try.func24, Try.ntmps24
  go_wp2_with fail
  refine (valid_any B _ zs ps _ (h.below hb0) hzl' hpl hel').mono ?_
  rintro e w1 ⟨rfl, hb1⟩
  have hY1 := hY.below hb1
  have hbel1 := hb0.trans (hb1.mono hb0.size)
  obtain ⟨y0, y1, y2⟩ := hY1.cells
  have hfr := hY1.free
  clear hY hb1 hb0 hY1
  have hend := fun x y z => ((hbel1.setCell (p := ⟨w.heap.size + 1, 0, none⟩) (by simp) x).setCell (p := ⟨w.heap.size + 1, 1, none⟩) (by simp) y).setCell (p := ⟨w.heap.size + 1, 2, none⟩) (by simp) z
  go_wp2
  exact bodyPost_ret (v := .tuple #[.agg #[.int .i64 0, .slice none 0 0, .slice none 0 0], .int .i64 1]) (by simp [results, Try.results24, go_sem, y0, y1, y2]) rfl ⟨rfl, hend _ _ _⟩

theorem implApply_any (count : Int) (sb : Nat) (ss : List (Int × Int × List Int)) (B : Int) (da ca : Option Addr) (dc cc : Nat) (zs : List Int) (ps : List (Int × List Int)) (w : World) (hR : DRead w (.agg #[.int .i64 B, .slice da zs.length dc, .slice ca ps.length cc]) B zs ps) (hcap : zs.length ≤ dc) (hzl : zs.length ≤ 1048576) (hpl : ps.length ≤ 1048576) (hel : ∀ i, (ps.getD i (0, [])).2.length ≤ 1048576) (hv : SRead w (.slice (some ⟨sb, 0, none⟩) ss.length ss.length) ss) (hs : ss.length ≤ 1048576) (hsd : ∀ i, (ss.getD i (0, 0, [])).2.2.length ≤ 1048576) (hc1 : -9223372036854775808 ≤ count) (hc2 : count ≤ 9223372036854775807) :
    Calls Try.prog 24 #[.agg #[.int .i64 B, .slice da zs.length dc, .slice ca ps.length cc], .slice (some ⟨sb, 0, none⟩) ss.length ss.length, .int .i64 count] w fun e w' => ∃ xa xc ya yc, e = .returned (.tuple #[.agg #[.int .i64 (gB B zs ps), .slice xa (aZ B zs ps ss count).length xc, .slice ya (aP B zs ps ss count).length yc], .int .i64 (aC B zs ps ss count)]) ∧ DOwnX w.heap.size w'.heap.size w' (.agg #[.int .i64 (gB B zs ps), .slice xa (aZ B zs ps ss count).length xc, .slice ya (aP B zs ps ss count).length yc]) (gB B zs ps) (aZ B zs ps ss count) (aP B zs ps ss count) ∧ Below w.heap.size w w' := by
  cases hok : dOK B zs ps with
  | true =>
    simp only [gB, aZ, aP, aC, hok, if_true]
    exact implApply_yes count sb ss B da ca dc cc zs ps w hR hok hv hs hsd hc1 hc2
  | false =>
    refine (implApply_no _ _ B da ca dc cc zs ps w hR hzl hpl hel hok).mono fun e w' hq => ?_
    obtain ⟨rfl, h2⟩ := hq
    simp only [gB, aZ, aP, aC, hok]
    exact ⟨none, 0, none, 0, rfl, DOwnX.none h2.size, h2⟩
theorem runS_ok (B : Int) (ss : List (Int × Int × List Int)) : ∀ (zs : List Int) (ps : List (Int × List Int)), (zs.length : Int) = B * 128 → Fits zs.length ps → ps.length ≤ 2048 → (runS B zs ps ss).1.length = zs.length ∧ Fits zs.length (runS B zs ps ss).2.1 ∧ (runS B zs ps ss).2.1.length ≤ 2048 := by
  induction ss with
  | nil => intro zs ps h1 h2 h3; exact ⟨rfl, h2, h3⟩
  | cons s r ih =>
    intro zs ps h1 h2 h3
    simp only [runS]
    by_cases hc : stC B ps.length s = 0
    · rw [if_pos hc]
      have hz := stZ_len (s := s) h2
      have hf : Fits (stZ zs ps s).length (stP B ps s) := by
        rw [hz]
        unfold stP
        by_cases e1 : s.1 = 1
        · rw [if_pos e1]
          unfold wP
          split
          · rename_i hw
            obtain ⟨w1, w2, _⟩ := wC_yes.1 hw
            exact fits_snoc h2 h1 w1 w2
          · exact h2
        · rw [if_neg e1]
          split
          · intro i hi; simp at hi
          · exact h2
      have := ih _ _ (by rw [hz]; exact h1) hf (stP_len h3)
      rw [hz] at this
      exact this
    · rw [if_neg hc]; exact ⟨rfl, h2, h3⟩

theorem sumP_fits {n : Nat} {ps : List (Int × List Int)} (h : Fits n ps) : sumP ps = 129 * ps.length := by
  induction ps with
  | nil => rfl
  | cons p r ih =>
    have h0 := (h 0 (by simp)).2.2
    have hr : Fits n r := fun i hi => by simpa using h (i + 1) (by simpa using hi)
    simp only [sumP, ih hr, List.length_cons]
    simp at h0
    omega

theorem ap_small (B : Int) (zs : List Int) (ps : List (Int × List Int)) (ss : List (Int × Int × List Int)) (count : Int) : (aZ B zs ps ss count).length ≤ zs.length ∧ sumP (aP B zs ps ss count) ≤ 264192 ∧ (aP B zs ps ss count).length ≤ 2048 ∧ PSmall (aP B zs ps ss count) := by
  unfold aZ aP
  by_cases hok : dOK B zs ps = true
  · rw [if_pos hok, if_pos hok]
    obtain ⟨hB1, hB2, hzl, hpl, hel⟩ := dOK_out hok
    have key : (apS B zs ps ss count).1.length = zs.length ∧ Fits zs.length (apS B zs ps ss count).2.1 ∧ (apS B zs ps ss count).2.1.length ≤ 2048 := by
      unfold apS
      split
      · exact ⟨rfl, fits_of_ok hok, hpl⟩
      · exact runS_ok B _ zs ps hzl (fits_of_ok hok) hpl
    obtain ⟨k1, k2, k3⟩ := key
    have k4 := sumP_fits k2
    refine ⟨by omega, by omega, k3, by omega, fun i => ?_⟩
    by_cases hi : i < (apS B zs ps ss count).2.1.length
    · have := (k2 i hi).2.2; omega
    · simp [hi]
  · rw [if_neg hok, if_neg hok]
    exact ⟨by simp, by simp [sumP], by simp, by simp, by simp⟩
end Go.Proofs.Ytbadedhliplkeaa

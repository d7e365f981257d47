import Derived.Test.YtanebeebphaolaaCr2
namespace Go.Proofs.Ytanebeebphaolaa
open Go.RowKit
set_option linter.unusedVariables false

theorem specFlush_any (B : Int) (da ca : Option Addr) (dc cc : Nat) (zs : List Int) (ps : List (Int × List Int)) (w : World) (hR : DRead w (.agg #[.int .i64 B, .slice da zs.length dc, .slice ca ps.length cc]) B zs ps) (hcap : zs.length ≤ dc) (hzl : zs.length ≤ 1048576) (hpl : ps.length ≤ 1048576) (hel : ∀ i, (ps.getD i (0, [])).2.length ≤ 1048576) :
    Calls Try.prog 30 #[.agg #[.int .i64 B, .slice da zs.length dc, .slice ca ps.length cc]] w fun e w' => ∃ xa xc, e = .returned (.tuple #[.agg #[.int .i64 (fB B zs ps), .slice xa (fZ true [] B zs ps).length xc, .slice none 0 0], .int .i64 (fC B zs ps)]) ∧ DOwn w.heap.size w'.heap.size w' (.agg #[.int .i64 (fB B zs ps), .slice xa (fZ true [] B zs ps).length xc, .slice none 0 0]) (fB B zs ps) (fZ true [] B zs ps) [] ∧ Below w.heap.size w w' := by
  cases hok : dOK B zs ps with
  | true =>
    refine (specFlush_yes B da ca dc cc zs ps w hR hcap hok).mono fun e w' hq => ?_
    obtain ⟨xa, xc, rfl, h1, h2⟩ := hq
    simp only [fB, fZ, fC, hok, if_true]
    exact ⟨xa, xc, rfl, DOwn.of_disk h2.size h1, h2⟩
  | false =>
    refine (specFlush_no B da ca dc cc zs ps w hR hzl hpl hel hok).mono fun e w' hq => ?_
    obtain ⟨rfl, h2⟩ := hq
    simp only [fB, fZ, fC, hok]
    exact ⟨none, 0, rfl, DOwn.of_disk (zs := []) h2.size (Own8.empty _ _ _ _ _), h2⟩

theorem implFlush_any (B : Int) (da ca : Option Addr) (dc cc : Nat) (zs : List Int) (ps : List (Int × List Int)) (w : World) (hR : DRead w (.agg #[.int .i64 B, .slice da zs.length dc, .slice ca ps.length cc]) B zs ps) (hcap : zs.length ≤ dc) (hzl : zs.length ≤ 1048576) (hpl : ps.length ≤ 1048576) (hel : ∀ i, (ps.getD i (0, [])).2.length ≤ 1048576) :
    Calls Try.prog 22 #[.agg #[.int .i64 B, .slice da zs.length dc, .slice ca ps.length cc]] w fun e w' => ∃ xa xc, e = .returned (.tuple #[.agg #[.int .i64 (fB B zs ps), .slice xa (fZ true [] B zs ps).length xc, .slice none 0 0], .int .i64 (fC B zs ps)]) ∧ DOwn w.heap.size w'.heap.size w' (.agg #[.int .i64 (fB B zs ps), .slice xa (fZ true [] B zs ps).length xc, .slice none 0 0]) (fB B zs ps) (fZ true [] B zs ps) [] ∧ Below w.heap.size w w' := by
  cases hok : dOK B zs ps with
  | true =>
    refine (implFlush_yes B da ca dc cc zs ps w hR hok).mono fun e w' hq => ?_
    obtain ⟨xa, xc, rfl, h1, h2⟩ := hq
    simp only [fB, fZ, fC, hok, if_true]
    rw [keptTo_all _ _ _ (Nat.le_refl _), List.take_length]
    exact ⟨xa, xc, rfl, DOwn.of_disk h2.size h1, h2⟩
  | false =>
    refine (implFlush_no B da ca dc cc zs ps w hR hzl hpl hel hok).mono fun e w' hq => ?_
    obtain ⟨rfl, h2⟩ := hq
    simp only [fB, fZ, fC, hok]
    exact ⟨none, 0, rfl, DOwn.of_disk (zs := []) h2.size (Own8.empty _ _ _ _ _), h2⟩

theorem specCrash_any (ks : List Int) (ka : Option Addr) (kc : Nat) (B : Int) (da ca : Option Addr) (dc cc : Nat) (zs : List Int) (ps : List (Int × List Int)) (w : World) (hR : DRead w (.agg #[.int .i64 B, .slice da zs.length dc, .slice ca ps.length cc]) B zs ps) (hcap : zs.length ≤ dc) (hzl : zs.length ≤ 1048576) (hpl : ps.length ≤ 1048576) (hel : ∀ i, (ps.getD i (0, [])).2.length ≤ 1048576) (hkv : Bts w (.slice ka ks.length kc) ks) (hkl : ks.length ≤ 1048576) :
    Calls Try.prog 31 #[.agg #[.int .i64 B, .slice da zs.length dc, .slice ca ps.length cc], .slice ka ks.length kc] w fun e w' => ∃ xa xc, e = .returned (.tuple #[.agg #[.int .i64 (fB B zs ps), .slice xa (fZ false ks B zs ps).length xc, .slice none 0 0], .int .i64 (fC B zs ps)]) ∧ DOwn w.heap.size w'.heap.size w' (.agg #[.int .i64 (fB B zs ps), .slice xa (fZ false ks B zs ps).length xc, .slice none 0 0]) (fB B zs ps) (fZ false ks B zs ps) [] ∧ Below w.heap.size w w' := by
  cases hok : dOK B zs ps with
  | true =>
    refine (specCrash_yes ks ka kc B da ca dc cc zs ps w hR hcap hok hkv hkl).mono fun e w' hq => ?_
    obtain ⟨xa, xc, rfl, h1, h2⟩ := hq
    simp only [fB, fZ, fC, hok, if_true]
    exact ⟨xa, xc, rfl, DOwn.of_disk h2.size h1, h2⟩
  | false =>
    refine (specCrash_no (.slice ka ks.length kc) B da ca dc cc zs ps w hR hzl hpl hel hok).mono fun e w' hq => ?_
    obtain ⟨rfl, h2⟩ := hq
    simp only [fB, fZ, fC, hok]
    exact ⟨none, 0, rfl, DOwn.of_disk (zs := []) h2.size (Own8.empty _ _ _ _ _), h2⟩

theorem implCrash_any (ks : List Int) (ka : Option Addr) (kc : Nat) (B : Int) (da ca : Option Addr) (dc cc : Nat) (zs : List Int) (ps : List (Int × List Int)) (w : World) (hR : DRead w (.agg #[.int .i64 B, .slice da zs.length dc, .slice ca ps.length cc]) B zs ps) (hcap : zs.length ≤ dc) (hzl : zs.length ≤ 1048576) (hpl : ps.length ≤ 1048576) (hel : ∀ i, (ps.getD i (0, [])).2.length ≤ 1048576) (hkv : Bts w (.slice ka ks.length kc) ks) (hkl : ks.length ≤ 1048576) :
    Calls Try.prog 23 #[.agg #[.int .i64 B, .slice da zs.length dc, .slice ca ps.length cc], .slice ka ks.length kc] w fun e w' => ∃ xa xc, e = .returned (.tuple #[.agg #[.int .i64 (fB B zs ps), .slice xa (fZ false ks B zs ps).length xc, .slice none 0 0], .int .i64 (fC B zs ps)]) ∧ DOwn w.heap.size w'.heap.size w' (.agg #[.int .i64 (fB B zs ps), .slice xa (fZ false ks B zs ps).length xc, .slice none 0 0]) (fB B zs ps) (fZ false ks B zs ps) [] ∧ Below w.heap.size w w' := by
  cases hok : dOK B zs ps with
  | true =>
    refine (implCrash_yes ks ka kc B da ca dc cc zs ps w hR hok hkv hkl).mono fun e w' hq => ?_
    obtain ⟨xa, xc, rfl, h1, h2⟩ := hq
    simp only [fB, fZ, fC, hok, if_true]
    exact ⟨xa, xc, rfl, DOwn.of_disk h2.size h1, h2⟩
  | false =>
    refine (implCrash_no (.slice ka ks.length kc) B da ca dc cc zs ps w hR hzl hpl hel hok).mono fun e w' hq => ?_
    obtain ⟨rfl, h2⟩ := hq
    simp only [fB, fZ, fC, hok]
    exact ⟨none, 0, rfl, DOwn.of_disk (zs := []) h2.size (Own8.empty _ _ _ _ _), h2⟩
end Go.Proofs.Ytanebeebphaolaa

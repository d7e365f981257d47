import Derived.Test.YtanebeebphaolaaAp2
namespace Go.Proofs.Ytanebeebphaolaa
open Go.RowKit

/-- the bytes zs lie in block g from off on, and may be written -/
structure Dsk (w : World) (g off : Nat) (zs : List Int) : Prop where
  small : ∀ i, 0 ≤ zs.getD i 0 ∧ zs.getD i 0 < 256
  cell : ∀ i, i < zs.length → w.cell? ⟨g, off + i, none⟩ = some (.int .u8 (zs.getD i 0)) ∧ w.frozen? ⟨g, off + i, none⟩ = false

theorem Dsk.block {w w' : World} {g off : Nat} {zs : List Int} (h : Dsk w g off zs) (hb : w'.heap[g]? = w.heap[g]?) : Dsk w' g off zs :=
  ⟨h.small, fun i hi => ⟨(World.cell?_of_block (a := ⟨g, off + i, none⟩) hb).trans (h.cell i hi).1, (World.frozen?_of_block (a := ⟨g, off + i, none⟩) hb).trans (h.cell i hi).2⟩⟩

theorem Dsk.set {w : World} {g off : Nat} {zs : List Int} (h : Dsk w g off zs) (j : Nat) (hj : j < zs.length) (v : Int) (hv : 0 ≤ v ∧ v < 256) : Dsk (w.setCell ⟨g, off + j, none⟩ (.int .u8 v)) g off (zs.set j v) := by
  have hget : ∀ i, (zs.set j v).getD i 0 = if i = j then v else zs.getD i 0 := fun i => by
    simp only [List.getD_eq_getElem?_getD, List.getElem?_set]
    by_cases hij : j = i
    · subst hij; simp [hj]
    · rw [if_neg hij, if_neg (fun e => hij e.symm)]
  refine ⟨fun i => ?_, fun i hi => ?_⟩
  · rw [hget]; split
    · exact hv
    · exact h.small i
  · rw [List.length_set] at hi
    rw [hget]
    refine ⟨?_, by simpa using (h.cell i hi).2⟩
    by_cases hij : i = j
    · subst hij; rw [if_pos rfl]; exact World.cell?_setCell_same _ _ _ (h.cell i hi).1
    · rw [if_neg hij, World.cell?_setCell_other _ _ _ _ (by intro hh; simp only [Addr.mk.injEq] at hh; omega)]
      exact (h.cell i hi).1

theorem Dsk.of_own {w : World} {g : Nat} {ua : Option Addr} {uc : Nat} {zs : List Int} (h : Own8 g (g + 1) w (.slice ua zs.length uc) zs) (hp : 0 < zs.length) : ∃ off, ua = some ⟨g, off, none⟩ ∧ Dsk w g off zs := by
  obtain ⟨a, cap, hv, hc⟩ := h.shape
  simp only [Value.slice.injEq, true_and] at hv
  obtain ⟨rfl, rfl⟩ := hv
  obtain ⟨b, off, ha, h1, h2, h3, h4⟩ := hc hp
  obtain rfl : b = g := by omega
  exact ⟨off, ha, h.small, h4⟩

theorem Dsk.own {w : World} {g off uc : Nat} {zs : List Int} (h : Dsk w g off zs) (hg : g < w.heap.size) : Own8 g (g + 1) w (.slice (some ⟨g, off, none⟩) zs.length uc) zs :=
  ⟨h.small, _, _, rfl, fun _ => ⟨g, off, rfl, Nat.le_refl _, Nat.lt_succ_self _, hg, h.cell⟩⟩

/-- x bytes of ds are laid into block q of D -/
def pt (D : List Int) (q : Nat) (ds : List Int) : Nat → List Int
  | 0 => D
  | x + 1 => (pt D q ds x).set (q * 128 + x) (ds.getD x 0)

theorem pt_length (D : List Int) (q : Nat) (ds : List Int) (x : Nat) : (pt D q ds x).length = D.length := by
  induction x with
  | zero => rfl
  | succ x ih => simp [pt, ih]

theorem pt_get (D : List Int) (q : Nat) (ds : List Int) (x : Nat) (h : q * 128 + x ≤ D.length) (i : Nat) : (pt D q ds x).getD i 0 = if q * 128 ≤ i ∧ i < q * 128 + x then ds.getD (i - q * 128) 0 else D.getD i 0 := by
  induction x with
  | zero => rw [if_neg (by omega)]; rfl
  | succ x ih =>
    have hi := ih (by omega)
    simp only [pt, List.getD_eq_getElem?_getD, List.getElem?_set] at hi ⊢
    by_cases he : q * 128 + x = i
    · subst he
      have := pt_length D q ds x
      rw [if_pos rfl, if_pos (by omega), if_pos (by omega)]
      simp
    · rw [if_neg he]
      rw [hi]
      by_cases hc : q * 128 ≤ i ∧ i < q * 128 + x
      · rw [if_pos hc, if_pos (by omega)]
      · rw [if_neg hc, if_neg (by omega)]

theorem pt_all (D : List Int) (q : Nat) (ds : List Int) (hl : ds.length = 128) (hq : (q + 1) * 128 ≤ D.length) : pt D q ds 128 = patch D q ds := by
  have h1 := pt_length D q ds 128
  have h2 := patch_length D q ds hl hq
  refine List.ext_getElem (by omega) fun i hi hj => ?_
  have e1 := pt_get D q ds 128 (by omega) i
  have e2 := patch_get D q ds hl hq i
  rw [← e2] at e1
  simpa [hi, hj] using e1
end Go.Proofs.Ytanebeebphaolaa

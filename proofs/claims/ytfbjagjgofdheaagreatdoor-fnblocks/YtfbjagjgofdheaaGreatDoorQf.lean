import Derived.Test.YtfbjagjgofdheaaGreatDoorLg
import Derived.Test.YtfbjagjgofdheaaGreatDoorCd3
namespace Go.Proofs.YtfbjagjgofdheaaGreatDoor
open Go.RowKit
set_option linter.unusedVariables false

abbrev St3 := Nat × Int
/-- the count that is drawn for a run at `at` behind rs: q1: the number for its length, q2: for its count -/
def drC0 (zs : List Int) (p : St3) : Int := if nxV zs (nxS zs (nxS zs p)) 15 = 0 then 65535 - nxV zs (nxS zs (nxS zs (nxS zs p))) 2 else 1 + nxV zs (nxS zs p) 3
def drP (zs : List Int) (p : St3) : St3 := if nxV zs (nxS zs (nxS zs p)) 15 = 0 then nxS zs (nxS zs (nxS zs (nxS zs p))) else nxS zs (nxS zs (nxS zs p))
/-- the run before ends at `at` with the same count -/
def drT (rs : List R3) (pos c : Int) : Prop := 0 < rs.length ∧ (rs.getD (rs.length - 1) (0, 0, 0)).1 + (rs.getD (rs.length - 1) (0, 0, 0)).2.1 = pos ∧ (rs.getD (rs.length - 1) (0, 0, 0)).2.2 = c
def drTb (rs : List R3) (pos c : Int) : Bool := decide (0 < rs.length) && (decide ((rs.getD (rs.length - 1) (0, 0, 0)).1 + (rs.getD (rs.length - 1) (0, 0, 0)).2.1 = pos) && decide ((rs.getD (rs.length - 1) (0, 0, 0)).2.2 = c))
def drC (zs : List Int) (rs : List R3) (pos : Int) (p : St3) : Int := if drTb rs pos (drC0 zs p) = true then 1 + drC0 zs p % 7 else drC0 zs p
def drL (zs : List Int) (p : St3) : Int := 1 + nxV zs p 6
/-- up to m runs more -/
def drG (zs : List Int) : List R3 → Int → St3 → Nat → List R3 × St3
  | rs, pos, p, 0 => (rs, p)
  | rs, pos, p, m + 1 => if 512 < pos + drL zs p then (rs, drP zs p) else drG zs (rs ++ [(pos, drL zs p, drC zs rs pos p)]) (pos + drL zs p + nxV zs (drP zs p) 4) (nxS zs (drP zs p)) m
theorem drG_stop {zs : List Int} {rs : List R3} {pos : Int} {p : St3} {m : Nat} (h : 512 < pos + drL zs p) : drG zs rs pos p (m + 1) = (rs, drP zs p) := by rw [drG, if_pos h]
theorem drG_go {zs : List Int} {rs : List R3} {pos : Int} {p : St3} {m : Nat} (h : ¬ 512 < pos + drL zs p) : drG zs rs pos p (m + 1) = drG zs (rs ++ [(pos, drL zs p, drC zs rs pos p)]) (pos + drL zs p + nxV zs (drP zs p) 4) (nxS zs (drP zs p)) m := by rw [drG, if_neg h]
/-- l2DrawRuns -/
def drQ (zs : List Int) (p : St3) : List R3 × St3 := drG zs [] (2 + nxV zs p 5) (nxS zs (nxS zs p)) (nxV zs (nxS zs p) 21).toNat
/-- l2DrawTable -/
def dtabN (zs : List Int) (p : St3) : Int := if nxV zs (drQ zs p).2 2 = 0 then 2 + nxV zs (nxS zs (drQ zs p).2) 510 else 0
def dtabS (zs : List Int) (p : St3) : St3 := if nxV zs (drQ zs p).2 2 = 0 then nxS zs (nxS zs (drQ zs p).2) else nxS zs (drQ zs p).2

theorem drC0_in (zs : List Int) (p : St3) : 1 ≤ drC0 zs p ∧ drC0 zs p ≤ 65535 := by
  have h1 := nxV_in zs (nxS zs (nxS zs (nxS zs p))) (n := 2) (by decide) (by decide)
  have h2 := nxV_in zs (nxS zs p) (n := 3) (by decide) (by decide)
  unfold drC0
  split <;> omega
theorem drL_in (zs : List Int) (p : St3) : 1 ≤ drL zs p ∧ drL zs p ≤ 6 := by
  have h1 := nxV_in zs p (n := 6) (by decide) (by decide)
  unfold drL
  omega
theorem drTb_iff {rs : List R3} {pos c : Int} : drTb rs pos c = true ↔ drT rs pos c := by
  unfold drTb drT
  simp
theorem drC_in (zs : List Int) (rs : List R3) (pos : Int) (p : St3) : 1 ≤ drC zs rs pos p ∧ drC zs rs pos p ≤ 65535 := by
  have h := drC0_in zs p
  unfold drC
  split <;> omega
/-- the number that stands behind is another -/
theorem drC_ne (zs : List Int) (rs : List R3) (pos : Int) (p : St3) (hr : 0 < rs.length) (he : (rs.getD (rs.length - 1) (0, 0, 0)).1 + (rs.getD (rs.length - 1) (0, 0, 0)).2.1 = pos) : drC zs rs pos p ≠ (rs.getD (rs.length - 1) (0, 0, 0)).2.2 := by
  have h := drC0_in zs p
  unfold drC
  by_cases hc : drTb rs pos (drC0 zs p) = true
  · rw [if_pos hc]
    obtain ⟨_, _, h3⟩ := drTb_iff.1 hc
    rw [h3]
    omega
  · rw [if_neg hc]
    intro e
    exact hc (drTb_iff.2 ⟨hr, he, e.symm⟩)

/-- the runs so far may stand, and end by pos -/
def drOK (rs : List R3) (pos : Int) : Prop := okT 512 rs ∧ 2 ≤ pos ∧ (0 < rs.length → (rs.getD (rs.length - 1) (0, 0, 0)).1 + (rs.getD (rs.length - 1) (0, 0, 0)).2.1 ≤ pos)
theorem r_left {rs : List R3} {e : R3} {i : Nat} (h : i < rs.length) : (rs ++ [e]).getD i (0, 0, 0) = rs.getD i (0, 0, 0) := by
  simp only [List.getD_eq_getElem?_getD]; rw [List.getElem?_append_left h]
theorem r_last {rs : List R3} {e : R3} : (rs ++ [e]).getD rs.length (0, 0, 0) = e := by
  simp
theorem drOK_snoc {rs : List R3} {pos l c : Int} (h : drOK rs pos) (hl : 1 ≤ l ∧ l ≤ 6) (hc : 1 ≤ c ∧ c ≤ 65535) (hp : pos + l ≤ 512) (hne : 0 < rs.length → (rs.getD (rs.length - 1) (0, 0, 0)).1 + (rs.getD (rs.length - 1) (0, 0, 0)).2.1 = pos → c ≠ (rs.getD (rs.length - 1) (0, 0, 0)).2.2) (d : Int) (hd : 0 ≤ d) : drOK (rs ++ [(pos, l, c)]) (pos + l + d) := by
  obtain ⟨⟨h1, h2⟩, h3, h4⟩ := h
  refine ⟨⟨fun i hi => ?_, fun i hi => ?_⟩, by omega, fun _ => ?_⟩
  · rw [List.length_append] at hi
    by_cases hlt : i < rs.length
    · refine ⟨by rw [r_left hlt]; exact (h1 i hlt).1, fun h0 => ?_⟩
      rw [r_left hlt, r_left (by omega)]; exact (h1 i hlt).2 h0
    · obtain rfl : i = rs.length := by simp at hi; omega
      refine ⟨by rw [r_last]; exact ⟨⟨by show 2 ≤ pos; omega, by show pos ≤ 512; omega⟩, ⟨by show 1 ≤ l; omega, by show l ≤ 512; omega⟩, by show pos + l ≤ 512; omega, hc⟩, fun h0 => ?_⟩
      rw [r_last, r_left (by omega)]
      have q := h4 h0
      have q2 := hne h0
      unfold fol
      generalize rs.getD (rs.length - 1) (0, 0, 0) = b at *
      by_cases e : b.1 + b.2.1 = pos
      · exact .inr ⟨by show pos = b.1 + b.2.1; omega, q2 e⟩
      · exact .inl (by show b.1 + b.2.1 < pos; omega)
  · rw [List.length_append] at hi
    by_cases hlt : i < rs.length
    · rw [r_left hlt]; exact h2 i hlt
    · obtain rfl : i = rs.length := by simp at hi; omega
      rw [r_last]; exact hp
  · rw [List.length_append, show rs.length + [(pos, l, c)].length - 1 = rs.length by simp, r_last]
    show pos + l ≤ pos + l + d
    omega
theorem drG_ok {zs : List Int} : ∀ (m : Nat) (rs : List R3) (pos : Int) (p : St3), drOK rs pos → okT 512 (drG zs rs pos p m).1 ∧ (drG zs rs pos p m).1.length ≤ rs.length + m
  | 0, rs, pos, p, h => ⟨h.1, by simp [drG]⟩
  | m + 1, rs, pos, p, h => by
    by_cases hs : 512 < pos + drL zs p
    · rw [drG_stop hs]; exact ⟨h.1, by show rs.length ≤ rs.length + (m + 1); omega⟩
    · rw [drG_go hs]
      have hd := nxV_in zs (drP zs p) (n := 4) (by decide) (by decide)
      have ih := drG_ok (zs := zs) m (rs ++ [(pos, drL zs p, drC zs rs pos p)]) (pos + drL zs p + nxV zs (drP zs p) 4) (nxS zs (drP zs p)) (drOK_snoc h (drL_in zs p) (drC_in zs rs pos p) (by omega) (fun h0 he => drC_ne zs rs pos p h0 he) _ hd.1)
      refine ⟨ih.1, Nat.le_trans ih.2 ?_⟩
      simp
      omega
theorem drQ_ok (zs : List Int) (p : St3) : okT 512 (drQ zs p).1 ∧ (drQ zs p).1.length ≤ 20 := by
  have h1 := nxV_in zs p (n := 5) (by decide) (by decide)
  have h2 := nxV_in zs (nxS zs p) (n := 21) (by decide) (by decide)
  have h := drG_ok (zs := zs) (nxV zs (nxS zs p) 21).toNat [] (2 + nxV zs p 5) (nxS zs (nxS zs p)) ⟨⟨fun i hi => by simp at hi, fun i hi => by simp at hi⟩, by omega, fun h0 => by simp at h0⟩
  refine ⟨h.1, Nat.le_trans h.2 ?_⟩
  simp
  omega
/-- the drawn table may be laid down -/
theorem dtab_ok (zs : List Int) (p : St3) : tbOK (dtabN zs p) (drQ zs p).1 := by
  have h := drQ_ok zs p
  refine ⟨?_, h.2, h.1⟩
  have h1 := nxV_in zs (nxS zs (drQ zs p).2) (n := 510) (by decide) (by decide)
  unfold dtabN nxOK
  split <;> omega
end Go.Proofs.YtfbjagjgofdheaaGreatDoor

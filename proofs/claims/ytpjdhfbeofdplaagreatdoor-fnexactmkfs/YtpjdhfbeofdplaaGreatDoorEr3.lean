import Derived.Test.YtpjdhfbeofdplaaGreatDoorEr2
import Derived.Stop.IfaceNil
namespace Go.Proofs.YtpjdhfbeofdplaaGreatDoor
open Go.RowKit Go.Extern.Stop Go.Stop Go.Extern

/-- the package's sentinels lie at adr; errors.errorType is laid -/
structure Laid (w : World) (adr : Nat → Addr) : Prop where
  typ : w.cell? ⟨3, 0, none⟩ = some (.iface 152 (.agg #[.pointer (some ⟨7, 105, none⟩)]))
  var : ∀ g, g ∈ ([0, 1, 2, 4, 5, 6] : List Nat) → w.cell? ⟨g, 0, none⟩ = some (.iface 166 (.pointer (some (adr g))))
  obj : ∀ g, g ∈ ([0, 1, 2, 4, 5, 6] : List Nat) → ∃ c t, w.heap[(adr g).block]? = some (.cells c t (0, 0))
  inj : ∀ g g', g ∈ ([0, 1, 2, 4, 5, 6] : List Nat) → g' ∈ ([0, 1, 2, 4, 5, 6] : List Nat) → g ≠ g' → adr g ≠ adr g'

theorem Laid.below {w w' : World} {adr : Nat → Addr} (h : Laid w adr) (k : Below w.heap.size w w') : Laid w' adr := by
  refine ⟨(k.cell (p := ⟨3, 0, none⟩) (World.block_lt_of_cell? _ _ h.typ)).trans h.typ, fun g hg => ?_, fun g hg => ?_, h.inj⟩
  · have e := h.var g hg
    exact (k.cell (p := ⟨g, 0, none⟩) (World.block_lt_of_cell? _ _ e)).trans e
  · obtain ⟨c, t, e⟩ := h.obj g hg
    exact ⟨c, t, (k.block _ (Array.getElem?_eq_some_iff.1 e).1).trans e⟩

/-- v is a *placeError that holds the sentinel of variable g -/
def PErr (w : World) (adr : Nat → Addr) (v : Value) (g : Nat) : Prop :=
  g ∈ ([0, 1, 2, 4, 5, 6] : List Nat) ∧ ∃ pb po, v = .iface 127 (.pointer (some ⟨pb, po, none⟩)) ∧ w.cell? ⟨pb, po + 1, none⟩ = some (.iface 166 (.pointer (some (adr g))))

/-- the code of a fault -/
def cdOf (g : Nat) : Int := if g = 1 then 3 else if g = 2 then 6 else 5

theorem is_place {w : World} {adr : Nat → Addr} (hL : Laid w adr) {v : Value} {g : Nat} (hv : PErr w adr v g) (t : Nat) (ht : t ∈ ([0, 1, 2, 4, 5, 6] : List Nat)) :
    Calls Tryz.prog 58 #[v, .iface 166 (.pointer (some (adr t)))] w fun e w' => e = .returned (.bool (decide (g = t))) ∧ w = w' := by
  obtain ⟨hg, pb, po, rfl, h1⟩ := hv
  by_cases e : g = t
  · subst e
    refine (is_wrap_same pb po (adr g) w h1).mono ?_
    rintro e w' ⟨rfl, rfl⟩
    exact ⟨by simp, rfl⟩
  · obtain ⟨c1, t1, e1⟩ := hL.obj g hg
    obtain ⟨c2, t2, e2⟩ := hL.obj t ht
    refine (is_wrap_other pb po (adr t) (adr g) c1 c2 t1 t2 w h1 (hL.inj g t hg ht e) e1 e2).mono ?_
    rintro e' w' ⟨rfl, rfl⟩
    exact ⟨by rw [decide_eq_false e], rfl⟩

set_option maxHeartbeats 1000000 in
theorem codeOf_any {w : World} {adr : Nat → Addr} (hL : Laid w adr) {v : Value} {g : Nat} (hv : PErr w adr v g) :
    Calls Tryz.prog 52 #[v] w fun e w' => e = .returned (.int .i64 (cdOf g)) ∧ Below w.heap.size w w' := by
  have hb0 : Below w.heap.size w (w.alloc (.cells #[.pointer none] 127)) := (Below.refl _ _).alloc (Nat.le_refl _) _
  have hL1 := hL.below hb0
  have hv1 : PErr (w.alloc (.cells #[.pointer none] 127)) adr v g := by
    obtain ⟨hg, pb, po, e, h1⟩ := hv
    exact ⟨hg, pb, po, e, (hb0.cell (p := ⟨pb, po + 1, none⟩) (World.block_lt_of_cell? _ _ h1)).trans h1⟩
  have c1 := hL1.var 1 (by decide)
  have c2 := hL1.var 2 (by decide)
  obtain ⟨hg, pb, po, hve, h1⟩ := hv
  have HV : Hid (PErr (w.alloc (.cells #[.pointer none] 127)) adr v g) := hv1
  subst hve
  have hnil := fun w => run_eql_iface_nil (P := Tryz.prog) (w := w) 105 (by kernel_rfl) 127 (.pointer (some ⟨pb, po, none⟩))
  clear hv1
  go_enter Tryz.func52, Tryz.ntmps52
  go_wp2_with fail
  refine (is_place hL1 HV.out 1 (by decide)).mono ?_
  rintro e w' ⟨rfl, rfl⟩
  have HC : Hid (cdOf g = if g = 1 then 3 else if g = 2 then 6 else 5) := rfl
  by_cases e1 : g = 1
  · have HC1 : Hid (cdOf g = 3) := by rw [HC.out, if_pos e1]; rfl
    rw [decide_eq_true e1]
    clear e1
    go_wp2
    go_ret
    exact ⟨by rw [HC1.out]; rfl, hb0⟩
  · rw [decide_eq_false e1]
    go_wp2_with fail
    refine (is_place hL1 HV.out 2 (by decide)).mono ?_
    rintro e w' ⟨rfl, rfl⟩
    by_cases e2 : g = 2
    · have HC1 : Hid (cdOf g = 6) := by rw [HC.out, if_neg e1, if_pos e2]; rfl
      rw [decide_eq_true e2]
      clear e1 e2
      go_wp2
      go_ret
      exact ⟨by rw [HC1.out]; rfl, hb0⟩
    · have HC1 : Hid (cdOf g = 5) := by rw [HC.out, if_neg e1, if_neg e2]; rfl
      rw [decide_eq_false e2]
      clear e1 e2
      have ct : (w.alloc (.cells #[.pointer none] 127)).cell? ⟨w.heap.size, 0, none⟩ = some (.pointer none) := World.cell?_alloc_at _ _ _ _ rfl
      have cf : (w.alloc (.cells #[.pointer none] 127)).frozen? ⟨w.heap.size, 0, none⟩ = false := World.frozen?_alloc_at _ _ _ _ rfl
      go_wp2_with fail
      refine (as_hit _ ⟨w.heap.size, 0, none⟩ (.pointer none) _ hL1.typ ct cf).mono ?_
      rintro e w' ⟨rfl, hw⟩
      have hB : Below w.heap.size w w' := by
        rw [hw]
        exact (((((hb0.alloc (by simp) _).alloc (by simp; omega) _).alloc (by simp; omega) _).alloc (by simp; omega) _).setCell (p := ⟨w.heap.size, 0, none⟩) (Nat.le_refl _) _)
      clear hw ct cf
      go_wp2
      go_ret
      exact ⟨by rw [HC1.out]; rfl, hB⟩
end Go.Proofs.YtpjdhfbeofdplaaGreatDoor

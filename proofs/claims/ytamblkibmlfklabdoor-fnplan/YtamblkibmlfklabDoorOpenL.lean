import Derived.Test.YtamblkibmlfklabDoorEr3
import Derived.Test.YtamblkibmlfklabDoorOpenN
import Derived.Test.YtamblkibmlfklabDoorTie
import Derived.OpenVars
import Derived.ChangeVars
import Derived.JoinedOf
import Derived.LaidLaws
import Derived.LaidHandle
import Derived.LaidSub
import Derived.Stop.Joined
import Derived.Stop.LaidErr
namespace Go.Proofs.YtamblkibmlfklabDoor
open Go.ChangeShapes Go.WideShapes Go.ChangeAt Go.RowKit

theorem gTyp : Tryd.prog.globalNamed "errors.errorType" = some 4 := by kernel_rfl
theorem gSz : Tryd.prog.globalNamed "loop.example/s01595/impl.errSize" = some 2 := by kernel_rfl
theorem gSm : Tryd.prog.globalNamed "loop.example/s01595/impl.errSum" = some 3 := by kernel_rfl
theorem gBd : Tryd.prog.globalNamed "loop.example/s01595/impl.errBound" = some 0 := by kernel_rfl
theorem gOr : Tryd.prog.globalNamed "loop.example/s01595/impl.errOrder" = some 1 := by kernel_rfl
theorem tSz : (Tryd.prog.globals[2]?).map (·.type) = some 54 := by kernel_rfl
theorem tSm : (Tryd.prog.globals[3]?).map (·.type) = some 54 := by kernel_rfl
theorem tBd : (Tryd.prog.globals[0]?).map (·.type) = some 54 := by kernel_rfl
theorem tOr : (Tryd.prog.globals[1]?).map (·.type) = some 54 := by kernel_rfl
theorem rtypeAt : (Tryd.prog.cutTypes.find? (·.1 == "internal/reflectlite.rtype")).map (·.2) = some 99 := by kernel_rfl
theorem oneError : ((List.range Tryd.prog.types.size).filter fun t => Tryd.prog.rowNamed t [101, 114, 114, 111, 114]) = [54] := by kernel_rfl
theorem starErr : "*" ++ "errors.errorString" = "*errors.errorString" := by decide
theorem oneEs (u : TypeId) (h : Tryd.prog.typeName? 3 u = some "*errors.errorString") : u = 114 :=
  typeName_ptr_named (nm := "errors.errorString") (by rw [starErr]; kernel_rfl) (by kernel_rfl) (by decide) u (by rw [starErr]; exact h)
theorem cellsEs : Tryd.prog.cellsOf 136 = 1 := by kernel_rfl
theorem cellsStr : Tryd.prog.cellsOf 9 = 1 := by kernel_rfl

/-- what is listed -/
def laid5 : List (String × DataW Unit) := [("errors.errorType", Rows.laid_errors_errorType), ("loop.example/s01595/impl.errSize", Rows.laid_loop_example_s01595_impl_errSize), ("loop.example/s01595/impl.errSum", Rows.laid_loop_example_s01595_impl_errSum), ("loop.example/s01595/impl.errBound", Rows.laid_loop_example_s01595_impl_errBound), ("loop.example/s01595/impl.errOrder", Rows.laid_loop_example_s01595_impl_errOrder)]
def laid4 : List (String × DataW Unit) := [("loop.example/s01595/impl.errSize", Rows.laid_loop_example_s01595_impl_errSize), ("loop.example/s01595/impl.errSum", Rows.laid_loop_example_s01595_impl_errSum), ("loop.example/s01595/impl.errBound", Rows.laid_loop_example_s01595_impl_errBound), ("loop.example/s01595/impl.errOrder", Rows.laid_loop_example_s01595_impl_errOrder)]

theorem typ_of_laid {W : World} (h : handlesMet Tryd.prog [("errors.errorType", Rows.laid_errors_errorType)] W) : W.cell? ⟨4, 0, none⟩ = some (.iface 99 (.agg #[.pointer (some ⟨5, 54, none⟩)])) := by
  obtain ⟨name, u, ty, e1, e2, e3, e4, e5⟩ := h _ (List.mem_singleton.2 rfl)
  have en : name = [101, 114, 114, 111, 114] := (Option.some.inj e1).symm
  subst en
  obtain rfl := Option.some.inj (rtypeAt.symm.trans e2)
  have hm : ty ∈ (List.range Tryd.prog.types.size).filter fun t => Tryd.prog.rowNamed t [101, 114, 114, 111, 114] := List.mem_filter.2 ⟨List.mem_range.2 e3, e4⟩
  rw [oneError] at hm
  obtain rfl := List.mem_singleton.1 hm
  have hh : typeHandle Tryd.prog 54 = .pointer (some ⟨5, 54, none⟩) := by kernel_rfl
  rw [hh] at e5
  simpa using World.var?_cell gTyp e5 0

/-- where each sentinel lies -/
def adr4 (a0 a1 a2 a3 : Addr) (g : Nat) : Addr := if g = 2 then a0 else if g = 3 then a1 else if g = 0 then a2 else a3

set_option maxRecDepth 100000 in
theorem sent_of_laid {W : World} (h : laidMet Tryd.prog laid4 W) :
    ∃ a0 a1 a2 a3 : Addr, (W.cell? ⟨2, 0, none⟩ = some (.iface 114 (.pointer (some a0))) ∧ W.cell? ⟨3, 0, none⟩ = some (.iface 114 (.pointer (some a1))) ∧ W.cell? ⟨0, 0, none⟩ = some (.iface 114 (.pointer (some a2))) ∧ W.cell? ⟨1, 0, none⟩ = some (.iface 114 (.pointer (some a3)))) ∧
      (a0 ≠ a1 ∧ a0 ≠ a2 ∧ a0 ≠ a3 ∧ a1 ≠ a2 ∧ a1 ≠ a3 ∧ a2 ≠ a3) ∧ (∀ a, a = a0 ∨ a = a1 ∨ a = a2 ∨ a = a3 → ∃ c t, W.heap[a.block]? = some (.cells c t (0, 0))) := by
  obtain ⟨ps, ⟨g0, t0, cs0, f0, p0, q0, hg0, ht0, hv0, hd0, ⟨g1, t1, cs1, f1, p1, q1, hg1, ht1, hv1, hd1, ⟨g2, t2, cs2, f2, p2, q2, hg2, ht2, hv2, hd2, ⟨g3, t3, cs3, f3, p3, q3, hg3, ht3, hv3, hd3, _, e3⟩, e2⟩, e1⟩, e0⟩, hnd, hrows⟩ := h
  obtain rfl := Option.some.inj (gSz.symm.trans hg0)
  obtain rfl := Option.some.inj (gSm.symm.trans hg1)
  obtain rfl := Option.some.inj (gBd.symm.trans hg2)
  obtain rfl := Option.some.inj (gOr.symm.trans hg3)
  obtain rfl := Option.some.inj (tSz.symm.trans ht0)
  obtain rfl := Option.some.inj (tSm.symm.trans ht1)
  obtain rfl := Option.some.inj (tBd.symm.trans ht2)
  obtain rfl := Option.some.inj (tOr.symm.trans ht3)
  subst e3 e2 e1 e0
  obtain ⟨l0⟩ := cs0
  obtain ⟨l1⟩ := cs1
  obtain ⟨l2⟩ := cs2
  obtain ⟨l3⟩ := cs3
  have ok0 : ∀ u v, l0 = [.iface u v] → Value.okWide Tryd.prog W .any 0 u v := fun u v e => by
    subst e
    exact (hrows 2 0 (by simp [MemPlace.row])).2 u v (by simpa using World.var?_cell hg0 hv0 0)
  have ok1 : ∀ u v, l1 = [.iface u v] → Value.okWide Tryd.prog W .any 0 u v := fun u v e => by
    subst e
    exact (hrows 3 0 (by simp [MemPlace.row])).2 u v (by simpa using World.var?_cell hg1 hv1 0)
  have ok2 : ∀ u v, l2 = [.iface u v] → Value.okWide Tryd.prog W .any 0 u v := fun u v e => by
    subst e
    exact (hrows 0 0 (by simp [MemPlace.row])).2 u v (by simpa using World.var?_cell hg2 hv2 0)
  have ok3 : ∀ u v, l3 = [.iface u v] → Value.okWide Tryd.prog W .any 0 u v := fun u v e => by
    subst e
    exact (hrows 1 0 (by simp [MemPlace.row])).2 u v (by simpa using World.var?_cell hg3 hv3 0)
  obtain ⟨a0, s0, rfl, -, -, -, rfl⟩ := errorString_of_trod Tryd.underlying54 oneEs Tryd.underlying114 Tryd.underlying136 rfl rfl Tryd.underlying9 cellsEs cellsStr hd0 ok0
  obtain ⟨a1, s1, rfl, -, -, -, rfl⟩ := errorString_of_trod Tryd.underlying54 oneEs Tryd.underlying114 Tryd.underlying136 rfl rfl Tryd.underlying9 cellsEs cellsStr hd1 ok1
  obtain ⟨a2, s2, rfl, -, -, -, rfl⟩ := errorString_of_trod Tryd.underlying54 oneEs Tryd.underlying114 Tryd.underlying136 rfl rfl Tryd.underlying9 cellsEs cellsStr hd2 ok2
  obtain ⟨a3, s3, rfl, -, -, -, rfl⟩ := errorString_of_trod Tryd.underlying54 oneEs Tryd.underlying114 Tryd.underlying136 rfl rfl Tryd.underlying9 cellsEs cellsStr hd3 ok3
  refine ⟨a0, a1, a2, a3, ⟨by simpa using World.var?_cell hg0 hv0 0, by simpa using World.var?_cell hg1 hv1 0, by simpa using World.var?_cell hg2 hv2 0, by simpa using World.var?_cell hg3 hv3 0⟩, ?_, ?_⟩
  · refine ⟨?_, ?_, ?_, ?_, ?_, ?_⟩ <;> (rintro rfl; simp [MemPlace.row] at hnd)
  · intro a ha
    exact (hrows a.block a.off (by rcases ha with rfl | rfl | rfl | rfl <;> simp [MemPlace.row])).1

theorem laid_of {W : World} (h : laidMetH Tryd.prog laid5 W) : ∃ adr, Laid W adr := by
  have h' : laidMet Tryd.prog laid4 W ∧ handlesMet Tryd.prog [("errors.errorType", Rows.laid_errors_errorType)] W := laidMetH_iff.1 h
  obtain ⟨a0, a1, a2, a3, ⟨v0, v1, v2, v3⟩, ⟨n1, n2, n3, n4, n5, n6⟩, ho⟩ := sent_of_laid h'.1
  have e0 : adr4 a0 a1 a2 a3 2 = a0 := by simp [adr4]
  have e1 : adr4 a0 a1 a2 a3 3 = a1 := by simp [adr4]
  have e2 : adr4 a0 a1 a2 a3 0 = a2 := by simp [adr4]
  have e3 : adr4 a0 a1 a2 a3 1 = a3 := by simp [adr4]
  have key : ∀ g, g ∈ ([0, 1, 2, 3] : List Nat) → g = 2 ∨ g = 3 ∨ g = 0 ∨ g = 1 := by decide
  refine ⟨adr4 a0 a1 a2 a3, typ_of_laid h'.2, fun g hg => ?_, fun g hg => ?_, fun g g' hg hg' hne => ?_⟩
  · rcases key g hg with rfl | rfl | rfl | rfl
    · rw [e0]; exact v0
    · rw [e1]; exact v1
    · rw [e2]; exact v2
    · rw [e3]; exact v3
  · rcases key g hg with rfl | rfl | rfl | rfl
    · rw [e0]; exact ho _ (.inl rfl)
    · rw [e1]; exact ho _ (.inr (.inl rfl))
    · rw [e2]; exact ho _ (.inr (.inr (.inl rfl)))
    · rw [e3]; exact ho _ (.inr (.inr (.inr rfl)))
  · rcases key g hg with rfl | rfl | rfl | rfl <;> rcases key g' hg' with rfl | rfl | rfl | rfl <;> simp only [e0, e1, e2, e3] <;> first | exact absurd rfl hne | assumption | (apply Ne.symm; assumption)
end Go.Proofs.YtamblkibmlfklabDoor

import Derived.Test.YtfbjagjgofdheaaGreatDoorKb
import Derived.Test.YtfbjagjgofdheaaGreatDoorTie
import Derived.OpenVars
import Derived.ChangeVars
import Derived.JoinedOf
import Derived.LaidLaws
import Derived.LaidHandle
import Derived.LaidSub
import Derived.Stop.Joined
import Derived.Stop.LaidErr
namespace Go.Proofs.YtfbjagjgofdheaaGreatDoor
open Go.ChangeShapes Go.WideShapes Go.ChangeAt Go.RowKit
set_option linter.unusedVariables false

theorem gTyp : Tryz.prog.globalNamed "errors.errorType" = some 4 := by kernel_rfl
theorem gS0 : Tryz.prog.globalNamed "loop.example/s01595/impl.errSize" = some 1 := by kernel_rfl
theorem tS0 : (Tryz.prog.globals[1]?).map (·.type) = some 65 := by kernel_rfl
theorem gS1 : Tryz.prog.globalNamed "loop.example/s01595/impl.errSum" = some 2 := by kernel_rfl
theorem tS1 : (Tryz.prog.globals[2]?).map (·.type) = some 65 := by kernel_rfl
theorem gS2 : Tryz.prog.globalNamed "loop.example/s01595/impl.errKind" = some 0 := by kernel_rfl
theorem tS2 : (Tryz.prog.globals[0]?).map (·.type) = some 65 := by kernel_rfl
theorem gS3 : Tryz.prog.globalNamed "loop.example/s01595/impl.errNumber" = some 5 := by kernel_rfl
theorem tS3 : (Tryz.prog.globals[5]?).map (·.type) = some 65 := by kernel_rfl
theorem gS4 : Tryz.prog.globalNamed "loop.example/s01595/impl.errBound" = some 6 := by kernel_rfl
theorem tS4 : (Tryz.prog.globals[6]?).map (·.type) = some 65 := by kernel_rfl
theorem gS5 : Tryz.prog.globalNamed "loop.example/s01595/impl.errRest" = some 3 := by kernel_rfl
theorem tS5 : (Tryz.prog.globals[3]?).map (·.type) = some 65 := by kernel_rfl
theorem rtypeAt : (Tryz.prog.cutTypes.find? (·.1 == "internal/reflectlite.rtype")).map (·.2) = some 129 := by kernel_rfl
theorem oneError : ((List.range Tryz.prog.types.size).filter fun t => Tryz.prog.rowNamed t [101, 114, 114, 111, 114]) = [65] := by kernel_rfl
theorem starErr : "*" ++ "errors.errorString" = "*errors.errorString" := by decide
theorem oneEs (u : TypeId) (h : Tryz.prog.typeName? 3 u = some "*errors.errorString") : u = 146 :=
  typeName_ptr_named (nm := "errors.errorString") (by rw [starErr]; kernel_rfl) (by kernel_rfl) (by decide) u (by rw [starErr]; exact h)
theorem cellsEs : Tryz.prog.cellsOf 172 = 1 := by kernel_rfl
theorem cellsStr : Tryz.prog.cellsOf 9 = 1 := by kernel_rfl
/-- what is listed -/
def laid7f : List (String × DataW Unit) := [("errors.errorType", Rows.laid_errors_errorType), ("loop.example/s01595/impl.errSize", Rows.laid_loop_example_s01595_impl_errSize), ("loop.example/s01595/impl.errSum", Rows.laid_loop_example_s01595_impl_errSum), ("loop.example/s01595/impl.errKind", Rows.laid_loop_example_s01595_impl_errKind), ("loop.example/s01595/impl.errNumber", Rows.laid_loop_example_s01595_impl_errNumber), ("loop.example/s01595/impl.errBound", Rows.laid_loop_example_s01595_impl_errBound), ("loop.example/s01595/impl.errRest", Rows.laid_loop_example_s01595_impl_errRest)]
def laid6f : List (String × DataW Unit) := [("loop.example/s01595/impl.errSize", Rows.laid_loop_example_s01595_impl_errSize), ("loop.example/s01595/impl.errSum", Rows.laid_loop_example_s01595_impl_errSum), ("loop.example/s01595/impl.errKind", Rows.laid_loop_example_s01595_impl_errKind), ("loop.example/s01595/impl.errNumber", Rows.laid_loop_example_s01595_impl_errNumber), ("loop.example/s01595/impl.errBound", Rows.laid_loop_example_s01595_impl_errBound), ("loop.example/s01595/impl.errRest", Rows.laid_loop_example_s01595_impl_errRest)]
theorem typ_of_laid {W : World} (h : handlesMet Tryz.prog [("errors.errorType", Rows.laid_errors_errorType)] W) : W.cell? ⟨4, 0, none⟩ = some (.iface 129 (.agg #[.pointer (some ⟨8, 65, none⟩)])) := by
  obtain ⟨name, u, ty, e1, e2, e3, e4, e5⟩ := h _ (List.mem_singleton.2 rfl)
  have en : name = [101, 114, 114, 111, 114] := (Option.some.inj e1).symm
  subst en
  obtain rfl := Option.some.inj (rtypeAt.symm.trans e2)
  have hm : ty ∈ (List.range Tryz.prog.types.size).filter fun t => Tryz.prog.rowNamed t [101, 114, 114, 111, 114] := List.mem_filter.2 ⟨List.mem_range.2 e3, e4⟩
  rw [oneError] at hm
  obtain rfl := List.mem_singleton.1 hm
  have hh : typeHandle Tryz.prog 65 = .pointer (some ⟨8, 65, none⟩) := by kernel_rfl
  rw [hh] at e5
  simpa using World.var?_cell gTyp e5 0
set_option maxRecDepth 100000 in
theorem sent_of_laid {W : World} (h : laidMet Tryz.prog laid6f W) :
    ∃ a0 a1 a2 a3 a4 a5 : Addr, (W.cell? ⟨1, 0, none⟩ = some (.iface 146 (.pointer (some a0))) ∧ W.cell? ⟨2, 0, none⟩ = some (.iface 146 (.pointer (some a1))) ∧ W.cell? ⟨0, 0, none⟩ = some (.iface 146 (.pointer (some a2))) ∧ W.cell? ⟨5, 0, none⟩ = some (.iface 146 (.pointer (some a3))) ∧ W.cell? ⟨6, 0, none⟩ = some (.iface 146 (.pointer (some a4))) ∧ W.cell? ⟨3, 0, none⟩ = some (.iface 146 (.pointer (some a5)))) ∧
      (a0 ≠ a1 ∧ a0 ≠ a2 ∧ a0 ≠ a3 ∧ a0 ≠ a4 ∧ a0 ≠ a5 ∧ a1 ≠ a2 ∧ a1 ≠ a3 ∧ a1 ≠ a4 ∧ a1 ≠ a5 ∧ a2 ≠ a3 ∧ a2 ≠ a4 ∧ a2 ≠ a5 ∧ a3 ≠ a4 ∧ a3 ≠ a5 ∧ a4 ≠ a5) ∧ (∀ a, a = a0 ∨ a = a1 ∨ a = a2 ∨ a = a3 ∨ a = a4 ∨ a = a5 → ∃ c t, W.heap[a.block]? = some (.cells c t (0, 0))) := by
  obtain ⟨ps, ⟨g0, t0, cs0, f0, p0, q0, hg0, ht0, hv0, hd0, ⟨g1, t1, cs1, f1, p1, q1, hg1, ht1, hv1, hd1, ⟨g2, t2, cs2, f2, p2, q2, hg2, ht2, hv2, hd2, ⟨g3, t3, cs3, f3, p3, q3, hg3, ht3, hv3, hd3, ⟨g4, t4, cs4, f4, p4, q4, hg4, ht4, hv4, hd4, ⟨g5, t5, cs5, f5, p5, q5, hg5, ht5, hv5, hd5, _, e5⟩, e4⟩, e3⟩, e2⟩, e1⟩, e0⟩, hnd, hrows⟩ := h
  obtain rfl := Option.some.inj (gS0.symm.trans hg0)
  obtain rfl := Option.some.inj (gS1.symm.trans hg1)
  obtain rfl := Option.some.inj (gS2.symm.trans hg2)
  obtain rfl := Option.some.inj (gS3.symm.trans hg3)
  obtain rfl := Option.some.inj (gS4.symm.trans hg4)
  obtain rfl := Option.some.inj (gS5.symm.trans hg5)
  obtain rfl := Option.some.inj (tS0.symm.trans ht0)
  obtain rfl := Option.some.inj (tS1.symm.trans ht1)
  obtain rfl := Option.some.inj (tS2.symm.trans ht2)
  obtain rfl := Option.some.inj (tS3.symm.trans ht3)
  obtain rfl := Option.some.inj (tS4.symm.trans ht4)
  obtain rfl := Option.some.inj (tS5.symm.trans ht5)
  subst e5 e4 e3 e2 e1 e0
  obtain ⟨l0⟩ := cs0
  obtain ⟨l1⟩ := cs1
  obtain ⟨l2⟩ := cs2
  obtain ⟨l3⟩ := cs3
  obtain ⟨l4⟩ := cs4
  obtain ⟨l5⟩ := cs5
  have ok0 : ∀ u v, l0 = [.iface u v] → Value.okWide Tryz.prog W .any 0 u v := fun u v e => by
    subst e
    exact (hrows 1 0 (by simp [MemPlace.row])).2 u v (by simpa using World.var?_cell hg0 hv0 0)
  have ok1 : ∀ u v, l1 = [.iface u v] → Value.okWide Tryz.prog W .any 0 u v := fun u v e => by
    subst e
    exact (hrows 2 0 (by simp [MemPlace.row])).2 u v (by simpa using World.var?_cell hg1 hv1 0)
  have ok2 : ∀ u v, l2 = [.iface u v] → Value.okWide Tryz.prog W .any 0 u v := fun u v e => by
    subst e
    exact (hrows 0 0 (by simp [MemPlace.row])).2 u v (by simpa using World.var?_cell hg2 hv2 0)
  have ok3 : ∀ u v, l3 = [.iface u v] → Value.okWide Tryz.prog W .any 0 u v := fun u v e => by
    subst e
    exact (hrows 5 0 (by simp [MemPlace.row])).2 u v (by simpa using World.var?_cell hg3 hv3 0)
  have ok4 : ∀ u v, l4 = [.iface u v] → Value.okWide Tryz.prog W .any 0 u v := fun u v e => by
    subst e
    exact (hrows 6 0 (by simp [MemPlace.row])).2 u v (by simpa using World.var?_cell hg4 hv4 0)
  have ok5 : ∀ u v, l5 = [.iface u v] → Value.okWide Tryz.prog W .any 0 u v := fun u v e => by
    subst e
    exact (hrows 3 0 (by simp [MemPlace.row])).2 u v (by simpa using World.var?_cell hg5 hv5 0)
  obtain ⟨a0, s0, rfl, -, -, -, rfl⟩ := errorString_of_trod Tryz.underlying65 oneEs Tryz.underlying146 Tryz.underlying172 rfl rfl Tryz.underlying9 cellsEs cellsStr hd0 ok0
  obtain ⟨a1, s1, rfl, -, -, -, rfl⟩ := errorString_of_trod Tryz.underlying65 oneEs Tryz.underlying146 Tryz.underlying172 rfl rfl Tryz.underlying9 cellsEs cellsStr hd1 ok1
  obtain ⟨a2, s2, rfl, -, -, -, rfl⟩ := errorString_of_trod Tryz.underlying65 oneEs Tryz.underlying146 Tryz.underlying172 rfl rfl Tryz.underlying9 cellsEs cellsStr hd2 ok2
  obtain ⟨a3, s3, rfl, -, -, -, rfl⟩ := errorString_of_trod Tryz.underlying65 oneEs Tryz.underlying146 Tryz.underlying172 rfl rfl Tryz.underlying9 cellsEs cellsStr hd3 ok3
  obtain ⟨a4, s4, rfl, -, -, -, rfl⟩ := errorString_of_trod Tryz.underlying65 oneEs Tryz.underlying146 Tryz.underlying172 rfl rfl Tryz.underlying9 cellsEs cellsStr hd4 ok4
  obtain ⟨a5, s5, rfl, -, -, -, rfl⟩ := errorString_of_trod Tryz.underlying65 oneEs Tryz.underlying146 Tryz.underlying172 rfl rfl Tryz.underlying9 cellsEs cellsStr hd5 ok5
  refine ⟨a0, a1, a2, a3, a4, a5, ⟨by simpa using World.var?_cell hg0 hv0 0, by simpa using World.var?_cell hg1 hv1 0, by simpa using World.var?_cell hg2 hv2 0, by simpa using World.var?_cell hg3 hv3 0, by simpa using World.var?_cell hg4 hv4 0, by simpa using World.var?_cell hg5 hv5 0⟩, ?_, ?_⟩
  · refine ⟨?_, ?_, ?_, ?_, ?_, ?_, ?_, ?_, ?_, ?_, ?_, ?_, ?_, ?_, ?_⟩ <;> (rintro rfl; simp [MemPlace.row] at hnd)
  · intro a ha
    exact (hrows a.block a.off (by rcases ha with rfl | rfl | rfl | rfl | rfl | rfl <;> simp [MemPlace.row])).1

theorem five_of {W : World} (h : laidMetH Tryz.prog laid7f W) : ∃ a s k n : Addr, Five W a s k n := by
  have h' : laidMet Tryz.prog laid6f W ∧ handlesMet Tryz.prog [("errors.errorType", Rows.laid_errors_errorType)] W := laidMetH_iff.1 h
  obtain ⟨a0, a1, a2, a3, a4, a5, ⟨v0, v1, v2, v3, v4, v5⟩, ⟨n01, n02, n03, n04, n05, n12, n13, n14, n15, n23, n24, n25, n34, n35, n45⟩, ho⟩ := sent_of_laid h'.1
  exact ⟨a0, a1, a2, a3, ⟨v0, v1, ho _ (.inl rfl), ho _ (.inr (.inl rfl)), Ne.symm n01⟩, typ_of_laid h'.2, v2, v3, ho _ (.inr (.inr (.inl rfl))), ho _ (.inr (.inr (.inr (.inl rfl)))), Ne.symm n02, Ne.symm n12, Ne.symm n03, Ne.symm n13⟩

/-- a sentinel's text -/
def textOf : DataW Unit → ByteArray
  | .iface _ (.ptr (.agg [.lit (.string l)])) => ⟨l.toArray⟩
  | _ => ⟨#[]⟩
def putIn (v : Value) : Obj → Obj
  | .cells _ t frozen => .cells #[v] t frozen
  | o => o
/-- a world in which all that is listed is laid -/
def laidIn (w0 : World) (n : Nat) : World :=
  { w0 with heap := (((((((w0.heap.modify 4 (putIn (.iface 129 (.agg #[.pointer (some ⟨8, 65, none⟩)])))).modify 1 (putIn (.iface 146 (.pointer (some ⟨n + 0, 0, none⟩))))).modify 2 (putIn (.iface 146 (.pointer (some ⟨n + 1, 0, none⟩))))).modify 0 (putIn (.iface 146 (.pointer (some ⟨n + 2, 0, none⟩))))).modify 5 (putIn (.iface 146 (.pointer (some ⟨n + 3, 0, none⟩))))).modify 6 (putIn (.iface 146 (.pointer (some ⟨n + 4, 0, none⟩))))).modify 3 (putIn (.iface 146 (.pointer (some ⟨n + 5, 0, none⟩))))) }

theorem laidWorld_met (os : Os) (args : Array Value) : laidMetH Tryz.prog laid7f ((laidIn (World.holding Tryz.prog os ⟨#[.cells #[.string (textOf Rows.laid_loop_example_s01595_impl_errSize)] 172, .cells #[.string (textOf Rows.laid_loop_example_s01595_impl_errSum)] 172, .cells #[.string (textOf Rows.laid_loop_example_s01595_impl_errKind)] 172, .cells #[.string (textOf Rows.laid_loop_example_s01595_impl_errNumber)] 172, .cells #[.string (textOf Rows.laid_loop_example_s01595_impl_errBound)] 172, .cells #[.string (textOf Rows.laid_loop_example_s01595_impl_errRest)] 172], #[], []⟩) (World.holding Tryz.prog default ⟨#[], #[], []⟩).heap.size).forCall (fun _ _ => 0) ⟨#[], args, []⟩).memory :=
  laidMetH_of_parts (show laidMet Tryz.prog laid6f _ from laidMet_of_run (ps := [.cell 1 0, .cell ((World.holding Tryz.prog default ⟨#[], #[], []⟩).heap.size + 0) 0, .cell 2 0, .cell ((World.holding Tryz.prog default ⟨#[], #[], []⟩).heap.size + 1) 0, .cell 0 0, .cell ((World.holding Tryz.prog default ⟨#[], #[], []⟩).heap.size + 2) 0, .cell 5 0, .cell ((World.holding Tryz.prog default ⟨#[], #[], []⟩).heap.size + 3) 0, .cell 6 0, .cell ((World.holding Tryz.prog default ⟨#[], #[], []⟩).heap.size + 4) 0, .cell 3 0, .cell ((World.holding Tryz.prog default ⟨#[], #[], []⟩).heap.size + 5) 0]) 8 (by kernel_rfl) (by kernel_rfl) (by kernel_rfl)) (by kernel_rfl)
end Go.Proofs.YtfbjagjgofdheaaGreatDoor

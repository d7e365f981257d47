import Derived.Test.YthcflbidjlediaaDoorOpenN
import Derived.Test.YthcflbidjlediaaDoorRn1
import Derived.Deep.Slices
import Derived.Lib.SmallJoins
namespace Go.Proofs.YthcflbidjlediaaDoor
open Go.ChangeShapes Go.WideShapes Go.ChangeAt Go.RowKit Go.Deep Go.Joins

theorem cellsRun : Tryd.prog.cellsOf 39 = 3 := by kernel_rfl
theorem cellsI : Tryd.prog.cellsOf 2 = 1 := by kernel_rfl

set_option maxRecDepth 100000 in
/-- a []Run out of a reading -/
theorem runs_of_trod {H : Type} {enc : TypeId × Value → H} {w : World} {base fuel : Nat} {cs : List Value} {y : DataW H × List MemPlace} (h : DataW.trod enc Tryd.prog w base (fun _ => true) true fuel 22 cs = some y) :
    ∃ a cap rs, cs = [.slice a (List.length rs) cap] ∧ rs.length ≤ 9223372036854775807 ∧ RRead w (.slice a rs.length cap) rs := by
  rcases open_slice Tryd.underlying22 h with ⟨hcs, _⟩ | ⟨a, len, cap, m, n, D, Pl, rfl, hb, hl, hm, hmm, _, hx⟩
  · exact ⟨none, 0, [], hcs, by simp, _, _, rfl, fun h => by simp at h⟩
  · have hml : m = cap := by simpa using hmm
    have each : ∀ i, i < len → ∃ p : Int × Int × Int, w.cell? (a.add (i * 3)) = some (.int .i64 p.1) ∧ w.cell? ((a.add (i * 3)).add 1) = some (.int .i64 p.2.1) ∧ w.cell? ((a.add (i * 3)).add 2) = some (.int .i64 p.2.2) := fun i hi => by
      obtain ⟨cs', h1, h2⟩ := hx i (by omega)
      rw [cellsRun] at h1
      obtain ⟨_, hlen, hc⟩ := World.cells?_some h1
      match cs', hlen with
      | [c0, c1, c2], _ =>
        obtain ⟨y0, y1, y2, k, _, _, e0, e1, e2⟩ := trod_struct3 Tryd.underlying39 h2
        have e0' : DataW.trod enc Tryd.prog w base (fun _ => true) true k 2 [c0] = some y0 := by simpa [cellsI] using e0
        have e1' : DataW.trod enc Tryd.prog w base (fun _ => true) true k 2 [c1] = some y1 := by simpa [cellsI] using e1
        have e2' : DataW.trod enc Tryd.prog w base (fun _ => true) true k 2 [c2] = some y2 := by simpa [cellsI] using e2
        obtain ⟨q, hq, _, _⟩ := DataW.trod_int Tryd.underlying2 e0'
        obtain ⟨q2, hq2, _, _⟩ := DataW.trod_int Tryd.underlying2 e1'
        obtain ⟨q3, hq3, _, _⟩ := DataW.trod_int Tryd.underlying2 e2'
        simp only [List.cons.injEq, and_true] at hq hq2 hq3
        subst hq hq2 hq3
        have c0' := hc 0 (by omega)
        have c1' := hc 1 (by omega)
        have c2' := hc 2 (by omega)
        simp only [List.getElem?_cons_zero, List.getElem?_cons_succ, Addr.add_zero'] at c0' c1' c2'
        exact ⟨(q, q2, q3), c0', c1', c2'⟩
    obtain ⟨f, hf⟩ := choose_lt each
    have hget : ∀ i, i < len → ((List.range len).map f).getD i (0, 0, 0) = f i := fun i hi => by simp [hi]
    have hsz : ((List.range len).map f).length = len := by simp
    refine ⟨some a, cap, (List.range len).map f, by rw [hsz], by rw [hsz]; exact maxLen_le (by omega), some a, cap, by rw [hsz], fun hp => ?_⟩
    rw [hsz] at hp
    have hsp : a.spot = none := by
      obtain ⟨e0, _⟩ := hf 0 hp
      rw [Nat.zero_mul, Addr.add_zero'] at e0
      exact World.cell?_spot e0
    obtain ⟨b, off, spot⟩ := a
    simp only at hsp
    subst hsp
    refine ⟨b, off, rfl, fun i hi => ?_⟩
    rw [hsz] at hi
    obtain ⟨e0, e1, e2⟩ := hf i hi
    simp only [Addr.add_lit] at e0 e1 e2
    rw [hget i hi]
    exact ⟨e0, e1, e2⟩

set_option maxRecDepth 100000 in
/-- an argument of runs -/
theorem runs_arg {H : Type} {enc : TypeId × Value → H} {w : World} {base b0 : Nat} {r : Reach} {v : Value} {d : DataW H} {p : List MemPlace} (hv : Value.okWide Tryd.prog w r b0 22 v) (h : DataW.Trod enc Tryd.prog w base (fun _ => true) true 22 v d p) :
    ∃ a cap rs, v = .slice a (List.length rs) cap ∧ rs.length ≤ 9223372036854775807 ∧ RRead w v rs := by
  obtain ⟨a, len, cap, rfl⟩ := okWide_slice Tryd.underlying22 hv
  obtain ⟨fuel, hf⟩ := h
  obtain ⟨a', cap', ss, he, h1, h2⟩ := runs_of_trod hf
  simp [Value.cells] at he
  obtain ⟨rfl, rfl, rfl⟩ := he
  exact ⟨a, cap, ss, rfl, h1, h2⟩
end Go.Proofs.YthcflbidjlediaaDoor

import Derived.Test.YtanebeebphaolaaOpenDev
import Derived.Test.YtanebeebphaolaaLawApply
namespace Go.Proofs.Ytanebeebphaolaa
open Go.ChangeShapes Go.WideShapes Go.ChangeAt Go.RowKit Go.Deep Go.Joins

theorem cellsStep : Try.prog.cellsOf 90 = 3 := by kernel_rfl

/-- a []Step out of a reading -/
theorem step_of_trod {H : Type} {enc : TypeId × Value → H} {w : World} {base fuel : Nat} {cs : List Value} {y : DataW H × List MemPlace} (h : DataW.trod enc Try.prog w base (fun _ => true) true fuel 57 cs = some y) :
    ∃ a cap ss, cs = [.slice a (List.length ss) cap] ∧ SBound ss ∧ SRead w (.slice a ss.length cap) ss := by
  rcases open_slice Try.underlying57 h with ⟨hcs, _⟩ | ⟨a, len, cap, m, n, D, Pl, rfl, hb, hl, hm, hmm, _, hx⟩
  · exact ⟨none, 0, [], hcs, ⟨by simp, by simp⟩, SRead.empty _ _ _⟩
  · have hml : m = cap := by simpa using hmm
    have each : ∀ i, i < len → ∃ p : Int × Int × List Int, p.2.2.length ≤ 9223372036854775807 ∧ ∃ da dc, w.cell? (a.add (i * 3)) = some (.int .i64 p.1) ∧ w.cell? ((a.add (i * 3)).add 1) = some (.int .i64 p.2.1) ∧ w.cell? ((a.add (i * 3)).add 2) = some (.slice da p.2.2.length dc) ∧ Bts w (.slice da p.2.2.length dc) p.2.2 := fun i hi => by
      obtain ⟨cs', h1, h2⟩ := hx i (by omega)
      rw [cellsStep] at h1
      obtain ⟨_, hlen, hc⟩ := World.cells?_some h1
      match cs', hlen with
      | [c0, c1, c2], _ =>
        obtain ⟨y0, y1, y2, k, _, _, e0, e1, e2⟩ := trod_struct3 Try.underlying90 h2
        have e0' : DataW.trod enc Try.prog w base (fun _ => true) true k 2 [c0] = some y0 := by simpa [cellsI] using e0
        have e1' : DataW.trod enc Try.prog w base (fun _ => true) true k 2 [c1] = some y1 := by simpa [cellsI] using e1
        have e2' : DataW.trod enc Try.prog w base (fun _ => true) true k 22 [c2] = some y2 := by simpa [cellsI, cellsB] using e2
        obtain ⟨q, hq, _, _⟩ := DataW.trod_int Try.underlying2 e0'
        obtain ⟨q2, hq2, _, _⟩ := DataW.trod_int Try.underlying2 e1'
        obtain ⟨da, dc, zs, hz, hzl, _, hbts⟩ := bytes_of_trod e2'
        simp only [List.cons.injEq, and_true] at hq hq2 hz
        subst hq hq2 hz
        have c0' := hc 0 (by omega)
        have c1' := hc 1 (by omega)
        have c2' := hc 2 (by omega)
        simp only [List.getElem?_cons_zero, List.getElem?_cons_succ, Addr.add_zero'] at c0' c1' c2'
        exact ⟨(q, q2, zs), hzl, da, dc, c0', c1', c2', hbts⟩
    obtain ⟨f, hf⟩ := choose_lt each
    have hget : ∀ i, i < len → ((List.range len).map f).getD i (0, 0, []) = f i := fun i hi => by simp [hi]
    have hsz : ((List.range len).map f).length = len := by simp
    refine ⟨some a, cap, (List.range len).map f, by rw [hsz], ⟨by rw [hsz]; exact maxLen_le (by omega), fun i => ?_⟩, some a, cap, by rw [hsz], fun hp => ?_⟩
    · by_cases hi : i < len
      · rw [hget i hi]; exact (hf i hi).1
      · simp [hi]
    · rw [hsz] at hp
      have hsp : a.spot = none := by
        obtain ⟨_, _, _, e0, _⟩ := hf 0 hp
        rw [Nat.zero_mul, Addr.add_zero'] at e0
        exact World.cell?_spot e0
      obtain ⟨b, off, spot⟩ := a
      simp only at hsp
      subst hsp
      refine ⟨b, off, rfl, fun i hi => ?_⟩
      rw [hsz] at hi
      obtain ⟨_, da, dc, e0, e1, e2, e3⟩ := hf i hi
      simp only [Addr.add_lit] at e0 e1 e2
      rw [hget i hi]
      exact ⟨da, dc, e0, e1, e2, e3⟩

/-- an argument of steps -/
theorem steps_arg {H : Type} {enc : TypeId × Value → H} {w : World} {base b0 : Nat} {r : Reach} {v : Value} {d : DataW H} {p : List MemPlace} (hv : Value.okWide Try.prog w r b0 57 v) (h : DataW.Trod enc Try.prog w base (fun _ => true) true 57 v d p) :
    ∃ a cap ss, v = .slice a (List.length ss) cap ∧ SBound ss ∧ SRead w v ss := by
  obtain ⟨a, len, cap, rfl⟩ := okWide_slice Try.underlying57 hv
  obtain ⟨fuel, hf⟩ := h
  obtain ⟨a', cap', ss, he, h1, h2⟩ := step_of_trod hf
  simp [Value.cells] at he
  obtain ⟨rfl, rfl, rfl⟩ := he
  exact ⟨a, cap, ss, rfl, h1, h2⟩

theorem i64_wf {x : Int} (h : (Lit.int .i64 x).wf = true) : -9223372036854775808 ≤ x ∧ x ≤ 9223372036854775807 := bounds_i64 h
end Go.Proofs.Ytanebeebphaolaa

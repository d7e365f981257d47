import Derived.Test.YtanebeebphaolaaOpen
import Derived.Test.YtanebeebphaolaaLawRead
import Derived.Deep.Slices
import Derived.Lib.SmallJoins
namespace Go.Proofs.Ytanebeebphaolaa
open Go.ChangeShapes Go.WideShapes Go.ChangeAt Go.RowKit Go.Deep Go.Joins

theorem cellsPend : Try.prog.cellsOf 99 = 2 := by kernel_rfl
theorem cellsDev : Try.prog.cellsOf 50 = 3 := by kernel_rfl
theorem cellsI : Try.prog.cellsOf 2 = 1 := by kernel_rfl
theorem cellsB : Try.prog.cellsOf 22 = 1 := by kernel_rfl

theorem maxLen_le {n : Nat} (h : n ≤ maxLen) : n ≤ 9223372036854775807 := by unfold maxLen at h; omega

/-- bytes out of a reading -/
theorem bytes_of_trod {H : Type} {enc : TypeId × Value → H} {w : World} {base fuel : Nat} {cs : List Value} {y : DataW H × List MemPlace} (h : DataW.trod enc Try.prog w base (fun _ => true) true fuel 22 cs = some y) :
    ∃ a cap zs, cs = [.slice a zs.length cap] ∧ zs.length ≤ 9223372036854775807 ∧ zs.length ≤ cap ∧ Bts w (.slice a zs.length cap) zs := by
  have hk : ∃ a n cap zs, cs = [.slice a n cap] ∧ IsRow .u8 w a n cap zs := by
    rcases open_ints Try.underlying22 Try.underlying5 (by kernel_rfl) h with ⟨hcs, _⟩ | ⟨x, l, c, zs, hcs, _, hl, hm, hz, _, hcell, hwz⟩
    · exact ⟨_, _, _, [], hcs, .inl ⟨rfl, rfl, rfl, rfl⟩⟩
    · exact ⟨_, _, _, zs, hcs, .inr ⟨_, rfl, hl, hm, by simpa using hz, hcell, hwz⟩⟩
  obtain ⟨a, n, cap, zs, hcs, hr⟩ := hk
  obtain ⟨ys, hl, hb⟩ := isRow_bts hr
  subst hl
  refine ⟨a, cap, ys, hcs, ?_, ?_, hb⟩
  · rcases hr with ⟨_, h1, _⟩ | ⟨_, _, h1, h2, _⟩
    · omega
    · have := maxLen_le h2; omega
  · rcases hr with ⟨_, h1, h2, _⟩ | ⟨_, _, h1, _⟩
    · omega
    · exact h1

/-- a []Pending out of a reading -/
theorem pend_of_trod {H : Type} {enc : TypeId × Value → H} {w : World} {base fuel : Nat} {cs : List Value} {y : DataW H × List MemPlace} (h : DataW.trod enc Try.prog w base (fun _ => true) true fuel 48 cs = some y) :
    ∃ a cap ps, cs = [.slice a (List.length ps) cap] ∧ PBound ps ∧ PRead w (.slice a ps.length cap) ps := by
  rcases open_slice Try.underlying48 h with ⟨hcs, _⟩ | ⟨a, len, cap, m, n, D, Pl, rfl, hb, hl, hm, hmm, _, hx⟩
  · exact ⟨none, 0, [], hcs, ⟨by simp, by simp⟩, PRead.empty _ _ _⟩
  · have hml : m = cap := by simpa using hmm
    have each : ∀ i, i < len → ∃ p : Int × List Int, p.2.length ≤ 9223372036854775807 ∧ ∃ da dc, w.cell? (a.add (i * 2)) = some (.int .i64 p.1) ∧ w.cell? ((a.add (i * 2)).add 1) = some (.slice da p.2.length dc) ∧ Bts w (.slice da p.2.length dc) p.2 := fun i hi => by
      obtain ⟨cs', h1, h2⟩ := hx i (by omega)
      rw [cellsPend] at h1
      obtain ⟨_, hlen, hc⟩ := World.cells?_some h1
      match cs', hlen with
      | [c0, c1], _ =>
        obtain ⟨y0, y1, k, _, _, e0, e1⟩ := trod_struct2 Try.underlying99 h2
        have e0' : DataW.trod enc Try.prog w base (fun _ => true) true k 2 [c0] = some y0 := by simpa [cellsI] using e0
        have e1' : DataW.trod enc Try.prog w base (fun _ => true) true k 22 [c1] = some y1 := by simpa [cellsB] using e1
        obtain ⟨q, hq, _, _⟩ := DataW.trod_int Try.underlying2 e0'
        obtain ⟨da, dc, zs, hz, hzl, _, hbts⟩ := bytes_of_trod e1'
        simp only [List.cons.injEq, and_true] at hq hz
        subst hq hz
        have c0' := hc 0 (by omega)
        have c1' := hc 1 (by omega)
        simp only [List.getElem?_cons_zero, List.getElem?_cons_succ, Addr.add_zero'] at c0' c1'
        exact ⟨(q, zs), hzl, da, dc, c0', c1', hbts⟩
    obtain ⟨f, hf⟩ := choose_lt each
    have hget : ∀ i, i < len → ((List.range len).map f).getD i (0, []) = f i := fun i hi => by simp [hi]
    have hsz : ((List.range len).map f).length = len := by simp
    refine ⟨some a, cap, (List.range len).map f, by rw [hsz], ⟨by rw [hsz]; exact maxLen_le (by omega), fun i => ?_⟩, some a, cap, by rw [hsz], fun hp => ?_⟩
    · by_cases hi : i < len
      · rw [hget i hi]; exact (hf i hi).1
      · simp [hi]
    · rw [hsz] at hp
      have hsp : a.spot = none := by
        obtain ⟨_, _, _, e0, _⟩ := hf 0 hp
        rw [Nat.zero_mul, Addr.add_zero'] at e0
        exact World.cell?_spot e0
      obtain ⟨b, off, spot⟩ := a
      simp only at hsp
      subst hsp
      refine ⟨b, off, rfl, fun i hi => ?_⟩
      rw [hsz] at hi
      obtain ⟨_, da, dc, e0, e1, e2⟩ := hf i hi
      simp only [Addr.add_lit] at e0 e1
      rw [hget i hi]
      exact ⟨da, dc, e0, e1, e2⟩

/-- a device out of a reading -/
theorem dev_of_trod {H : Type} {enc : TypeId × Value → H} {w : World} {base b0 : Nat} {r : Reach} {v : Value} {d : DataW H} {p : List MemPlace} (hv : Value.okWide Try.prog w r b0 50 v) (h : DataW.Trod enc Try.prog w base (fun _ => true) true 50 v d p) :
    ∃ B va vc vb vd zs ps, v = .agg #[.int .i64 B, .slice va (List.length zs) vc, .slice vb (List.length ps) vd] ∧ zs.length ≤ 9223372036854775807 ∧ PBound ps ∧ DRead w v B zs ps := by
  obtain ⟨c0, c1, c2, y0, y1, y2, n, rfl, _, _, e0, e1, e2⟩ := open_agg3 Try.underlying50 (by kernel_rfl) cellsDev hv h
  obtain ⟨B, hB, _, _⟩ := DataW.trod_int Try.underlying2 e0
  obtain ⟨va, vc, zs, hz, hzl, _, hbts⟩ := bytes_of_trod e1
  obtain ⟨vb, vd, ps, hp, hpb, hpr⟩ := pend_of_trod e2
  simp only [List.cons.injEq, and_true] at hB hz hp
  subst hB hz hp
  exact ⟨B, va, vc, vb, vd, zs, ps, rfl, hzl, hpb, va, vc, vb, vd, rfl, hbts, hpr⟩

/-- an argument of bytes -/
theorem bytes_arg {H : Type} {enc : TypeId × Value → H} {w : World} {base b0 : Nat} {r : Reach} {v : Value} {d : DataW H} {p : List MemPlace} (hv : Value.okWide Try.prog w r b0 22 v) (h : DataW.Trod enc Try.prog w base (fun _ => true) true 22 v d p) :
    ∃ a cap zs, v = .slice a (List.length zs) cap ∧ zs.length ≤ 9223372036854775807 ∧ Bts w v zs := by
  obtain ⟨a, len, cap, rfl⟩ := okWide_slice Try.underlying22 hv
  obtain ⟨fuel, hf⟩ := h
  obtain ⟨a', cap', zs, he, h1, _, h2⟩ := bytes_of_trod hf
  simp [Value.cells] at he
  obtain ⟨rfl, rfl, rfl⟩ := he
  exact ⟨a, cap, zs, rfl, h1, h2⟩
end Go.Proofs.Ytanebeebphaolaa

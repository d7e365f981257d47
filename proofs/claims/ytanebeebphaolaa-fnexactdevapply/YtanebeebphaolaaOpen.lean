import Derived.Test.YtanebeebphaolaaBytes
import Derived.ProofKit
import Derived.OpenShut
import Derived.ShutString
import Derived.ChangeOld
import Derived.Below
namespace Go.Proofs.Ytanebeebphaolaa
open Go.ChangeShapes Go.WideShapes Go.ChangeAt Go.RowKit

theorem own : ownKnob Try.prog.godebug = none := by kernel_rfl
theorem laidOut : laidOutB Try.prog = true := by kernel_rfl

/-- what the walk is told of a slice of integers that came in -/
def IsRow (k : IntKind) (w : World) (a : Option Addr) (len cap : Nat) (zs : List Int) : Prop :=
  (a = none ∧ len = 0 ∧ cap = 0 ∧ zs = []) ∨
  ∃ x, a = some x ∧ len ≤ cap ∧ cap ≤ maxLen ∧ zs.length = cap ∧ (∀ i, i < zs.length → w.cell? (x.add i) = some (.int k (zs.getD i 0))) ∧ ∀ n ∈ zs, (Lit.int k n).wf = true

theorem isRow_bts {w : World} {a : Option Addr} {len cap : Nat} {zs : List Int} (h : IsRow .u8 w a len cap zs) : ∃ ys, ys.length = len ∧ Bts w (.slice a len cap) ys := by
  rcases h with ⟨rfl, rfl, rfl, rfl⟩ | ⟨x, rfl, hl, hm, hz, hcell, hwz⟩
  · exact ⟨[], rfl, fun i => by simp, _, _, rfl, fun h => by simp at h⟩
  · have hlen : (zs.take len).length = len := by simp; omega
    refine ⟨zs.take len, hlen, fun i => ?_, _, _, by rw [hlen], fun hp => ?_⟩
    · have hr := range_u8 hwz i
      by_cases hi : i < len
      · simp only [List.getD_eq_getElem?_getD, List.getElem?_take, if_pos hi]; omega
      · simp only [List.getD_eq_getElem?_getD, List.getElem?_take, if_neg hi]; simp
    · rw [hlen] at hp
      obtain ⟨b, off, spot⟩ := x
      have hc := hcell 0 (by omega)
      have hspot : spot = none := by simpa [Addr.add] using World.cell?_spot hc
      subst hspot
      refine ⟨b, off, rfl, fun i hi => ?_⟩
      rw [hlen] at hi
      have hthis := hcell i (by omega)
      have e : (({ block := b, off := off, spot := none } : Addr).add i) = ⟨b, off + i, none⟩ := by
        unfold Addr.add; by_cases h0 : i = 0 <;> simp [h0]
      rw [e] at hthis
      rw [hthis]
      simp only [List.getD_eq_getElem?_getD, List.getElem?_take, if_pos hi]

end Go.Proofs.Ytanebeebphaolaa

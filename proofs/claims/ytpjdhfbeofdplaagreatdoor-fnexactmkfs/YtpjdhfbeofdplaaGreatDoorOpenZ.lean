import Derived.Test.YtpjdhfbeofdplaaGreatDoorBytes
import Derived.ProofKit
import Derived.OpenShut
import Derived.ShutString
import Derived.ChangeOld
import Derived.Below
namespace Go.Proofs.YtpjdhfbeofdplaaGreatDoor
open Go.ChangeShapes Go.WideShapes Go.ChangeAt Go.RowKit

theorem own : ownKnob Tryz.prog.godebug = none := by kernel_rfl
theorem laidOut : laidOutB Tryz.prog = true := by kernel_rfl

/-- what the walk is told of a slice of integers that came in -/
def IsRow (k : IntKind) (w : World) (a : Option Addr) (len cap : Nat) (zs : List Int) : Prop :=
  (a = none ∧ len = 0 ∧ cap = 0 ∧ zs = []) ∨
  ∃ x, a = some x ∧ len ≤ cap ∧ cap ≤ maxLen ∧ zs.length = cap ∧ (∀ i, i < zs.length → w.cell? (x.add i) = some (.int k (zs.getD i 0))) ∧ ∀ n ∈ zs, (Lit.int k n).wf = true

theorem isRow_bts {w : World} {a : Option Addr} {len cap : Nat} {zs : List Int} (h : IsRow .u8 w a len cap zs) : ∃ ys, ys.length = len ∧ Bts w (.slice a len cap) ys := by
  rcases h with ⟨rfl, rfl, rfl, rfl⟩ | ⟨x, rfl, hl, hm, hz, hcell, hwz⟩
  · exact ⟨[], rfl, fun i => by simp, _, _, rfl, fun h => by simp at h⟩
  · have hlen : (zs.take len).length = len := by simp; omega
    refine ⟨zs.take len, hlen, fun i => ?_, _, _, by rw [hlen], fun hp => ?_⟩
    · have hr := range_u8 hwz i
      by_cases hi : i < len
      · simp only [List.getD_eq_getElem?_getD, List.getElem?_take, if_pos hi]; omega
      · simp only [List.getD_eq_getElem?_getD, List.getElem?_take, if_neg hi]; simp
    · rw [hlen] at hp
      obtain ⟨b, off, spot⟩ := x
      have hc := hcell 0 (by omega)
      have hspot : spot = none := by simpa [Addr.add] using World.cell?_spot hc
      subst hspot
      refine ⟨b, off, rfl, fun i hi => ?_⟩
      rw [hlen] at hi
      have hthis := hcell i (by omega)
      have e : (({ block := b, off := off, spot := none } : Addr).add i) = ⟨b, off + i, none⟩ := by
        unfold Addr.add; by_cases h0 : i = 0 <;> simp [h0]
      rw [e] at hthis
      rw [hthis]
      simp only [List.getD_eq_getElem?_getD, List.getElem?_take, if_pos hi]

theorem maxLen_le {n : Nat} (h : n ≤ maxLen) : n ≤ 9223372036854775807 := by unfold maxLen at h; omega


/-- bytes out of a reading -/
theorem bytes_of_trod {H : Type} {enc : TypeId × Value → H} {w : World} {base fuel : Nat} {cs : List Value} {y : DataW H × List MemPlace} (h : DataW.trod enc Tryz.prog w base (fun _ => true) true fuel 22 cs = some y) :
    ∃ a cap zs, cs = [.slice a zs.length cap] ∧ zs.length ≤ 9223372036854775807 ∧ zs.length ≤ cap ∧ Bts w (.slice a zs.length cap) zs := by
  have hk : ∃ a n cap zs, cs = [.slice a n cap] ∧ IsRow .u8 w a n cap zs := by
    rcases open_ints Tryz.underlying22 Tryz.underlying5 (by kernel_rfl) h with ⟨hcs, _⟩ | ⟨x, l, c, zs, hcs, _, hl, hm, hz, _, hcell, hwz⟩
    · exact ⟨_, _, _, [], hcs, .inl ⟨rfl, rfl, rfl, rfl⟩⟩
    · exact ⟨_, _, _, zs, hcs, .inr ⟨_, rfl, hl, hm, by simpa using hz, hcell, hwz⟩⟩
  obtain ⟨a, n, cap, zs, hcs, hr⟩ := hk
  obtain ⟨ys, hl, hb⟩ := isRow_bts hr
  subst hl
  refine ⟨a, cap, ys, hcs, ?_, ?_, hb⟩
  · rcases hr with ⟨_, h1, _⟩ | ⟨_, _, h1, h2, _⟩
    · omega
    · have := maxLen_le h2; omega
  · rcases hr with ⟨_, h1, h2, _⟩ | ⟨_, _, h1, _⟩
    · omega
    · exact h1

set_option maxRecDepth 100000 in
/-- an argument of bytes -/
theorem bytes_arg {H : Type} {enc : TypeId × Value → H} {w : World} {base b0 : Nat} {r : Reach} {v : Value} {d : DataW H} {p : List MemPlace} (hv : Value.okWide Tryz.prog w r b0 22 v) (h : DataW.Trod enc Tryz.prog w base (fun _ => true) true 22 v d p) :
    ∃ a cap zs, v = .slice a (List.length zs) cap ∧ zs.length ≤ 9223372036854775807 ∧ Bts w v zs := by
  obtain ⟨a, len, cap, rfl⟩ := okWide_slice Tryz.underlying22 hv
  obtain ⟨fuel, hf⟩ := h
  obtain ⟨a', cap', zs, he, h1, _, h2⟩ := bytes_of_trod hf
  simp [Value.cells] at he
  obtain ⟨rfl, rfl, rfl⟩ := he
  exact ⟨a, cap, zs, rfl, h1, h2⟩
end Go.Proofs.YtpjdhfbeofdplaaGreatDoor

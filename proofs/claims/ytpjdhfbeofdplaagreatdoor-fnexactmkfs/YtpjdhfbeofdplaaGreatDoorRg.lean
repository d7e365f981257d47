import Derived.Test.YtpjdhfbeofdplaaGreatDoorInv
import Derived.OrdersHeld
import Derived.Deep.RegionHeld
namespace Go.Proofs.YtpjdhfbeofdplaaGreatDoor
open Go.RowKit

section
variable {P : Program} {ops : Array Oper} {Q : Exit → Act → World → Prop} {md : Region.Mode} {S : World → Prop} {L : Nat}

/-- Whatever order is picked; S holds behind every operation but number L. -/
def wpAnyE (P : Program) (md : Region.Mode) (ops : Array Oper) (Q : Exit → Act → World → Prop) (S : World → Prop) (L : Nat) : Nat → Array Bool → Act → World → Prop
  | 0, listed, a, w => Region.ready md ops listed = [] ∧ Q .normal a w
  | fuel + 1, listed, a, w =>
    (Region.ready md ops listed = [] → Q .normal a w) ∧
    ∀ i ∈ Region.ready md ops listed, wpOp P ops Q i (fun a' w' => (i ≠ L → S w') ∧ wpAnyE P md ops Q S L fuel (listed.setIfInBounds i true) a' w') a w

theorem wpAny_of_E : ∀ (fuel : Nat) (listed : Array Bool) (a : Act) (w : World), wpAnyE P md ops Q S L fuel listed a w → wpAny P md ops Q fuel listed a w
  | 0, _, _, _, h => h
  | fuel + 1, _, _, _, h => ⟨h.1, fun i hi => wpOp_mono (fun a' w' h' => wpAny_of_E fuel _ a' w' h'.2) (h.2 i hi)⟩

/-- number L waits for every other one -/
def lastly (md : Region.Mode) (ops : Array Oper) (L : Nat) : Bool :=
  (List.range ops.size).all fun i => i == L || (((ops[L]?).map fun o => o.after.toList.any fun e => Region.binds md e && e.on == i).getD false)

theorem lastly_alone (h : lastly md ops L = true) {i : Nat} {listed : Array Bool} (hi : i ∈ Region.ready md ops listed) (hL : L ∈ Region.ready md ops listed) : i = L := by
  obtain ⟨h1, o, ho, h2⟩ := mem_ready.1 hi
  obtain ⟨_, oL, hoL, h4⟩ := mem_ready.1 hL
  have hlt : i < ops.size := (Array.getElem?_eq_some_iff.1 ho).1
  have h5 := List.all_eq_true.1 h i (List.mem_range.2 hlt)
  simp only [hoL, Option.map_some, Option.getD_some, Bool.or_eq_true, beq_iff_eq, List.any_eq_true, Bool.and_eq_true] at h5
  rcases h5 with h5 | ⟨e, he, hb, hon⟩
  · exact h5
  · have h6 := h4 e (by simpa using he) hb
    rw [hon] at h6
    simp only [Array.getD_eq_getD_getElem?] at h1 h6
    cases hx : listed[i]? with
    | none => simp [hx] at h1
    | some b => simp [hx] at h1 h6; rw [h1] at h6; cases h6

theorem wpAnyE_first (hlast : lastly md ops L = true) {i : Nat} {oi : Oper} {v : Value} (hi : ops[i]? = some oi) (hsel : ∀ (j : Nat) (o : Oper) cs b, ops[j]? = some o → o.op ≠ .select cs b)
    (hQ : ∀ c a w, Q (.panic c) (a.put oi.dst v) w → Q (.panic c) a w) (fuel : Nat) :
    ∀ (listed : Array Bool) (a : Act) (w : World),
      (∀ j oj, ops[j]? = some oj → j ≠ i → listed.getD j true = false → (∀ e ∈ oj.after, Region.binds md e = true → e.on ≠ i) → oi.apart ops oj = true) →
      i ∈ Region.ready md ops listed → YieldsIf P ops S oi v a → S w →
      wpAnyE P md ops Q S L fuel (listed.setIfInBounds i true) (a.put oi.dst v) w → wpAnyE P md ops Q S L (fuel + 1) listed a w := by
  induction fuel with
  | zero =>
    intro listed a w _ hr hy hS H
    refine ⟨fun h => by simp [h] at hr, fun j hj => ?_⟩
    by_cases hji : j = i
    · subst hji
      exact hy.wpOp hi hS ⟨fun _ => hS, H⟩
    · have hm := ready_mono hj hji
      simp [H.1] at hm
  | succ fuel ih =>
    intro listed a w hfree hr hy hS H
    refine ⟨fun h => by simp [h] at hr, fun j hj => ?_⟩
    by_cases hji : j = i
    · subst hji
      exact hy.wpOp hi hS ⟨fun _ => hS, H⟩
    · have hjL : j ≠ L := fun e => hji (e.trans (lastly_alone hlast hr (e ▸ hj)).symm)
      obtain ⟨hjun, oj, hoj, hall⟩ := mem_ready.1 hj
      have hnot : ∀ e ∈ oj.after, Region.binds md e = true → e.on ≠ i := fun e he hb hon => by
        have h1 := hall e he hb
        have h0 := (mem_ready.1 hr).1
        rw [hon] at h1
        simp only [Array.getD_eq_getD_getElem?] at h0 h1
        cases hx : listed[i]? with
        | none => simp [hx] at h0
        | some b => simp [hx] at h0 h1; rw [h0] at h1; cases h1
      have h2 := wpOp_putIf hoj (hfree j oj hoj hji hjun hnot) (fun cs b => hsel i oi cs b hi) (fun cs b => hsel j oj cs b hoj) hQ hy (H.2 j (ready_mono hj hji))
      refine wpOp_mono (fun a' w' h3 => ?_) h2
      obtain ⟨hy', hS', hE⟩ := h3
      refine ⟨hS', ih (listed.setIfInBounds j true) a' w' (fun k ok hk hki hun hno => hfree k ok hk hki ?_ hno) (ready_mono hr (Ne.symm hji)) hy' (hS' hjL) ?_⟩
      · by_cases hjk : j = k
        · exact hjk ▸ hjun
        · rwa [getD_set_ne true hjk] at hun
      · rw [Array.setIfInBounds_comm _ _ hji]
        exact hE

/-- take number i first -/
theorem wpAnyE_take {i : Nat} {oi : Oper} (t : Nat) (v : Value) {fuel : Nat} {listed : Array Bool} {a : Act} {w : World} (hlast : lastly md ops L = true) (hi : ops[i]? = some oi)
    (hs : Region.noSelect ops = true) (hf : Region.free md ops listed i = true) (hr : (Region.ready md ops listed).contains i = true)
    (hQ : ∀ c a w, Q (.panic c) (a.put oi.dst v) w → Q (.panic c) a w) (hg : oi.guard = none) (ht : oi.dst = some t) (hS : S w) (hy : ∀ w, S w → (execOp a.eval oi).run P w = .ok (.value v) w)
    (h : wpAnyE P md ops Q S L fuel (listed.setIfInBounds i true) (a.put (some t) v) w) : wpAnyE P md ops Q S L (fuel + 1) listed a w :=
  wpAnyE_first hlast hi (Region.noSelect_spec hs) hQ fuel listed a w (Region.free_spec hi hf) (by simpa using hr) (.inl ⟨by simp [Region.wanted, hg], hy⟩) hS (by rw [ht]; exact h)

/-- one alone may come up: it is carried out -/
theorem wpAnyE_one {i : Nat} {oi : Oper} {fuel : Nat} {listed : Array Bool} {a : Act} {w : World} (hr : Region.ready md ops listed = [i]) (hi : ops[i]? = some oi) (hg : oi.guard = none)
    (h : ∀ K' : Act → World → Prop, (∀ a' w', (i ≠ L → S w') → wpAnyE P md ops Q S L fuel (listed.setIfInBounds i true) a' w' → K' a' w') → oi.wp P a w K' Q) : wpAnyE P md ops Q S L (fuel + 1) listed a w := by
  refine ⟨fun h0 => by simp [hr] at h0, fun j hj => ?_⟩
  rw [hr] at hj
  simp only [List.mem_singleton] at hj
  subst hj
  unfold wpOp
  simp only [hi]
  rw [if_pos (by simp [Region.wanted, hg])]
  exact .inl (h _ fun _ _ h1 h2 => ⟨h1, h2⟩)

theorem wpAnyE_done {listed : Array Bool} {a : Act} {w : World} (hr : Region.ready md ops listed = []) (h : Q .normal a w) : ∀ fuel, wpAnyE P md ops Q S L fuel listed a w
  | 0 => ⟨hr, h⟩
  | _ + 1 => ⟨fun _ => h, by rw [hr]; simp⟩

theorem wp_region_E (S : World → Prop) (L : Nat) {id : Nat} {a : Act} {w : World} (hm : P.follows .mixedOrders = true)
    (h : wpAnyE P .any ops Q S L ops.size (Array.replicate ops.size false) a w.drew) : (Code.region id ops true).wp P Q a w :=
  wp_region_any hm (wpAny_of_E _ _ _ _ h)
end
end Go.Proofs.YtpjdhfbeofdplaaGreatDoor

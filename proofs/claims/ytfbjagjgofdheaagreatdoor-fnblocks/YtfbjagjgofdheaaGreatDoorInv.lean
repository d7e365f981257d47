import Derived.Test.YtfbjagjgofdheaaGreatDoorRows
import Derived.WalkKit
import Derived.Orders
import Derived.OrdersHeld
import Derived.Deep.RegionHeld
import Derived.Test.YtfbjagjgofdheaaGreatDoorCd3
import Derived.DeepKeys
namespace Go.Proofs.YtfbjagjgofdheaaGreatDoor
open Go.RowKit

section
variable {P : Program} {ops : Array Oper} {Q : Exit → Act → World → Prop} {md : Region.Mode}

/-- what is listed is closed under what each waits for -/
def Clsd (md : Region.Mode) (ops : Array Oper) (l : Array Bool) : Prop := ∀ k, l.getD k false = true → ∀ o, ops[k]? = some o → ∀ e ∈ o.after, Region.binds md e = true → l.getD e.on false = true

theorem getD_set_self {l : Array Bool} {i : Nat} (h : l.getD i true = false) : (l.setIfInBounds i true).getD i false = true := by
  have hi : i < l.size := by
    by_cases hh : i < l.size
    · exact hh
    · simp [Array.getElem?_eq_none (Nat.le_of_not_lt hh)] at h
  simp [hi]

/-- an order that is drawn: what holds whichever operation is picked -/
theorem wpAny_inv (I : Array Bool → Act → World → Prop)
    (hstep : ∀ l a w, l.size = ops.size → Clsd md ops l → I l a w → ∀ i o, ops[i]? = some o → l.getD i true = false → l.getD i false = false → (∀ e ∈ o.after, Region.binds md e = true → l.getD e.on false = true) → wpOp P ops Q i (fun a' w' => I (l.setIfInBounds i true) a' w') a w)
    (hend : ∀ l a w, l.size = ops.size → I l a w → (∀ i, i < ops.size → l.getD i false = true) → Q .normal a w)
    (hsrt : ∀ l : Array Bool, l.size = ops.size → Region.ready md ops l = [] → ∀ i, i < ops.size → l.getD i false = true) :
    ∀ (fuel : Nat) (l : Array Bool) (a : Act) (w : World), l.size = ops.size → Clsd md ops l → l.toList.count false = fuel → I l a w → wpAny P md ops Q fuel l a w := by
  intro fuel
  induction fuel with
  | zero =>
    intro l a w hs _ hc hI
    have hall : ∀ i, i < ops.size → l.getD i false = true := fun i hi => by
      have hil : i < l.size := by omega
      cases hb : l[i] with
      | true => simp [hil, hb]
      | false =>
        exfalso
        have hm : false ∈ l.toList := by rw [← hb]; exact Array.getElem_mem_toList hil
        have := List.count_pos_iff.2 hm
        omega
    have hr : Region.ready md ops l = [] := by
      cases hrr : Region.ready md ops l with
      | nil => rfl
      | cons j r =>
        exfalso
        obtain ⟨h1, o, ho, _⟩ := mem_ready.1 (show j ∈ Region.ready md ops l by rw [hrr]; simp)
        have hj : j < ops.size := (Array.getElem?_eq_some_iff.1 ho).1
        have h2 := hall j hj
        have hjl : j < l.size := by omega
        simp [hjl] at h1 h2
        rw [h1] at h2; cases h2
    exact ⟨hr, hend l a w hs hI hall⟩
  | succ fuel ih =>
    intro l a w hs hcl hc hI
    refine ⟨fun hr => hend l a w hs hI (hsrt l hs hr), fun i hi => ?_⟩
    obtain ⟨h1, o, ho, hd⟩ := mem_ready.1 hi
    have hio : i < ops.size := (Array.getElem?_eq_some_iff.1 ho).1
    have hil : i < l.size := by omega
    have hlf : l[i] = false := by simpa [hil] using h1
    have h1' : l.getD i false = false := by simp [hil, hlf]
    refine wpOp_mono (fun a' w' hI' => ih (l.setIfInBounds i true) a' w' (by simpa using hs) ?_ ?_ hI') (hstep l a w hs hcl hI i o ho h1 h1' hd)
    · intro k hk o' ho' e he hb
      by_cases hki : i = k
      · subst hki
        obtain rfl := Option.some.inj (ho.symm.trans ho')
        exact getD_set_true (hd e he hb)
      · rw [getD_set_ne false hki] at hk
        exact getD_set_true (hcl k hk o' ho' e he hb)
    · have hlt : i < l.toList.length := by simpa using hil
      rw [Array.toList_setIfInBounds, List.count_set hlt]
      have : l.toList[i] = false := by simpa using hlf
      have hc2 : Array.count false l = fuel + 1 := by simpa using hc
      simp [this, hc2]

/-- each waits for earlier ones alone -/
theorem all_listed (hlt : ∀ (k : Nat) (o : Oper), ops[k]? = some o → ∀ e ∈ o.after, e.on < k) (l : Array Bool) (hs : l.size = ops.size) (hr : Region.ready md ops l = []) : ∀ i, i < ops.size → l.getD i false = true := by
  intro i
  induction i using Nat.strongRecOn with
  | ind i ih =>
    intro hi
    have hil : i < l.size := by omega
    cases hb : l[i] with
    | true => simp [hil, hb]
    | false =>
      exfalso
      have : i ∈ Region.ready md ops l := mem_ready.2 ⟨by simp [hil, hb], ops[i], Array.getElem?_eq_getElem hi, fun e he _ => by
        have := hlt i _ (Array.getElem?_eq_getElem hi) e he
        exact ih e.on this (by omega)⟩
      rw [hr] at this
      cases this

theorem ahead_of (h : (ops.toList.zipIdx.all fun p => p.1.after.toList.all fun e => decide (e.on < p.2)) = true) (k : Nat) (o : Oper) (ho : ops[k]? = some o) : ∀ e ∈ o.after, e.on < k := fun e he => by
  have hm : (o, k) ∈ ops.toList.zipIdx := by
    rw [List.mem_zipIdx_iff_getElem?]
    simpa using ho
  have h1 := List.all_eq_true.1 h _ hm
  exact of_decide_eq_true (List.all_eq_true.1 h1 e (by simpa using he))

/-- an operation that is carried out whatever was yielded -/
theorem wpOp_do {i : Nat} {o : Oper} {K : Act → World → Prop} {a : Act} {w : World} (ho : ops[i]? = some o) (hg : o.guard = none) (h : o.wp P a w K Q) : wpOp P ops Q i K a w := by
  unfold wpOp
  simp only [ho]
  rw [if_pos (by simp [Region.wanted, hg])]
  exact .inl h

end
end Go.Proofs.YtfbjagjgofdheaaGreatDoor

namespace Go.Proofs.YtfbjagjgofdheaaGreatDoor
open Go.RowKit

section
variable {P : Program} {ops : Array Oper} {Q : Exit → Act → World → Prop} {md : Region.Mode} {S : World → Prop} {L : Nat}

/-- Whatever order is picked; S holds behind every operation but number L. -/
def wpAnyE (P : Program) (md : Region.Mode) (ops : Array Oper) (Q : Exit → Act → World → Prop) (S : World → Prop) (L : Nat) : Nat → Array Bool → Act → World → Prop
  | 0, listed, a, w => Region.ready md ops listed = [] ∧ Q .normal a w
  | fuel + 1, listed, a, w =>
    (Region.ready md ops listed = [] → Q .normal a w) ∧
    ∀ i ∈ Region.ready md ops listed, wpOp P ops Q i (fun a' w' => (i ≠ L → S w') ∧ wpAnyE P md ops Q S L fuel (listed.setIfInBounds i true) a' w') a w

theorem wpAny_of_E : ∀ (fuel : Nat) (listed : Array Bool) (a : Act) (w : World), wpAnyE P md ops Q S L fuel listed a w → wpAny P md ops Q fuel listed a w
  | 0, _, _, _, h => h
  | fuel + 1, _, _, _, h => ⟨h.1, fun i hi => wpOp_mono (fun a' w' h' => wpAny_of_E fuel _ a' w' h'.2) (h.2 i hi)⟩

/-- number L waits for every other one -/
def lastly (md : Region.Mode) (ops : Array Oper) (L : Nat) : Bool :=
  (List.range ops.size).all fun i => i == L || (((ops[L]?).map fun o => o.after.toList.any fun e => Region.binds md e && e.on == i).getD false)

theorem lastly_alone (h : lastly md ops L = true) {i : Nat} {listed : Array Bool} (hi : i ∈ Region.ready md ops listed) (hL : L ∈ Region.ready md ops listed) : i = L := by
  obtain ⟨h1, o, ho, h2⟩ := mem_ready.1 hi
  obtain ⟨_, oL, hoL, h4⟩ := mem_ready.1 hL
  have hlt : i < ops.size := (Array.getElem?_eq_some_iff.1 ho).1
  have h5 := List.all_eq_true.1 h i (List.mem_range.2 hlt)
  simp only [hoL, Option.map_some, Option.getD_some, Bool.or_eq_true, beq_iff_eq, List.any_eq_true, Bool.and_eq_true] at h5
  rcases h5 with h5 | ⟨e, he, hb, hon⟩
  · exact h5
  · have h6 := h4 e (by simpa using he) hb
    rw [hon] at h6
    simp only [Array.getD_eq_getD_getElem?] at h1 h6
    cases hx : listed[i]? with
    | none => simp [hx] at h1
    | some b => simp [hx] at h1 h6; rw [h1] at h6; cases h6

theorem wpAnyE_first (hlast : lastly md ops L = true) {i : Nat} {oi : Oper} {v : Value} (hi : ops[i]? = some oi) (hsel : ∀ (j : Nat) (o : Oper) cs b, ops[j]? = some o → o.op ≠ .select cs b)
    (hQ : ∀ c a w, Q (.panic c) (a.put oi.dst v) w → Q (.panic c) a w) (fuel : Nat) :
    ∀ (listed : Array Bool) (a : Act) (w : World),
      (∀ j oj, ops[j]? = some oj → j ≠ i → listed.getD j true = false → (∀ e ∈ oj.after, Region.binds md e = true → e.on ≠ i) → oi.apart ops oj = true) →
      i ∈ Region.ready md ops listed → YieldsIf P ops S oi v a → S w →
      wpAnyE P md ops Q S L fuel (listed.setIfInBounds i true) (a.put oi.dst v) w → wpAnyE P md ops Q S L (fuel + 1) listed a w := by
  induction fuel with
  | zero =>
    intro listed a w _ hr hy hS H
    refine ⟨fun h => by simp [h] at hr, fun j hj => ?_⟩
    by_cases hji : j = i
    · subst hji
      exact hy.wpOp hi hS ⟨fun _ => hS, H⟩
    · have hm := ready_mono hj hji
      simp [H.1] at hm
  | succ fuel ih =>
    intro listed a w hfree hr hy hS H
    refine ⟨fun h => by simp [h] at hr, fun j hj => ?_⟩
    by_cases hji : j = i
    · subst hji
      exact hy.wpOp hi hS ⟨fun _ => hS, H⟩
    · have hjL : j ≠ L := fun e => hji (e.trans (lastly_alone hlast hr (e ▸ hj)).symm)
      obtain ⟨hjun, oj, hoj, hall⟩ := mem_ready.1 hj
      have hnot : ∀ e ∈ oj.after, Region.binds md e = true → e.on ≠ i := fun e he hb hon => by
        have h1 := hall e he hb
        have h0 := (mem_ready.1 hr).1
        rw [hon] at h1
        simp only [Array.getD_eq_getD_getElem?] at h0 h1
        cases hx : listed[i]? with
        | none => simp [hx] at h0
        | some b => simp [hx] at h0 h1; rw [h0] at h1; cases h1
      have h2 := wpOp_putIf hoj (hfree j oj hoj hji hjun hnot) (fun cs b => hsel i oi cs b hi) (fun cs b => hsel j oj cs b hoj) hQ hy (H.2 j (ready_mono hj hji))
      refine wpOp_mono (fun a' w' h3 => ?_) h2
      obtain ⟨hy', hS', hE⟩ := h3
      refine ⟨hS', ih (listed.setIfInBounds j true) a' w' (fun k ok hk hki hun hno => hfree k ok hk hki ?_ hno) (ready_mono hr (Ne.symm hji)) hy' (hS' hjL) ?_⟩
      · by_cases hjk : j = k
        · exact hjk ▸ hjun
        · rwa [getD_set_ne true hjk] at hun
      · rw [Array.setIfInBounds_comm _ _ hji]
        exact hE

/-- take number i first -/
theorem wpAnyE_take {i : Nat} {oi : Oper} (t : Nat) (v : Value) {fuel : Nat} {listed : Array Bool} {a : Act} {w : World} (hlast : lastly md ops L = true) (hi : ops[i]? = some oi)
    (hs : Region.noSelect ops = true) (hf : Region.free md ops listed i = true) (hr : (Region.ready md ops listed).contains i = true)
    (hQ : ∀ c a w, Q (.panic c) (a.put oi.dst v) w → Q (.panic c) a w) (hg : oi.guard = none) (ht : oi.dst = some t) (hS : S w) (hy : ∀ w, S w → (execOp a.eval oi).run P w = .ok (.value v) w)
    (h : wpAnyE P md ops Q S L fuel (listed.setIfInBounds i true) (a.put (some t) v) w) : wpAnyE P md ops Q S L (fuel + 1) listed a w :=
  wpAnyE_first hlast hi (Region.noSelect_spec hs) hQ fuel listed a w (Region.free_spec hi hf) (by simpa using hr) (.inl ⟨by simp [Region.wanted, hg], hy⟩) hS (by rw [ht]; exact h)

/-- one alone may come up: it is carried out -/
theorem wpAnyE_one {i : Nat} {oi : Oper} {fuel : Nat} {listed : Array Bool} {a : Act} {w : World} (hr : Region.ready md ops listed = [i]) (hi : ops[i]? = some oi) (hg : oi.guard = none)
    (h : ∀ K' : Act → World → Prop, (∀ a' w', (i ≠ L → S w') → wpAnyE P md ops Q S L fuel (listed.setIfInBounds i true) a' w' → K' a' w') → oi.wp P a w K' Q) : wpAnyE P md ops Q S L (fuel + 1) listed a w := by
  refine ⟨fun h0 => by simp [hr] at h0, fun j hj => ?_⟩
  rw [hr] at hj
  simp only [List.mem_singleton] at hj
  subst hj
  unfold wpOp
  simp only [hi]
  rw [if_pos (by simp [Region.wanted, hg])]
  exact .inl (h _ fun _ _ h1 h2 => ⟨h1, h2⟩)

theorem wpAnyE_done {listed : Array Bool} {a : Act} {w : World} (hr : Region.ready md ops listed = []) (h : Q .normal a w) : ∀ fuel, wpAnyE P md ops Q S L fuel listed a w
  | 0 => ⟨hr, h⟩
  | _ + 1 => ⟨fun _ => h, by rw [hr]; simp⟩

theorem wp_region_E (S : World → Prop) (L : Nat) {id : Nat} {a : Act} {w : World} (hm : P.follows .mixedOrders = true)
    (h : wpAnyE P .any ops Q S L ops.size (Array.replicate ops.size false) a w.drew) : (Code.region id ops true).wp P Q a w :=
  wp_region_any hm (wpAny_of_E _ _ _ _ h)
end
end Go.Proofs.YtfbjagjgofdheaaGreatDoor

namespace Go.Proofs.YtfbjagjgofdheaaGreatDoor
open Go.RowKit
set_option linter.unusedVariables false

section
variable {P : Program} {ops : Array Oper} {Q : Exit → Act → World → Prop} {md : Region.Mode} {S : World → Prop} {L : Nat}

theorem wpAnyE_firstN (hlast : ops.size ≤ L) {i : Nat} {oi : Oper} {v : Value} (hi : ops[i]? = some oi) (hsel : ∀ (j : Nat) (o : Oper) cs b, ops[j]? = some o → o.op ≠ .select cs b)
    (hQ : ∀ c a w, Q (.panic c) (a.put oi.dst v) w → Q (.panic c) a w) (fuel : Nat) :
    ∀ (listed : Array Bool) (a : Act) (w : World),
      (∀ j oj, ops[j]? = some oj → j ≠ i → listed.getD j true = false → (∀ e ∈ oj.after, Region.binds md e = true → e.on ≠ i) → oi.apart ops oj = true) →
      i ∈ Region.ready md ops listed → YieldsIf P ops S oi v a → S w →
      wpAnyE P md ops Q S L fuel (listed.setIfInBounds i true) (a.put oi.dst v) w → wpAnyE P md ops Q S L (fuel + 1) listed a w := by
  induction fuel with
  | zero =>
    intro listed a w _ hr hy hS H
    refine ⟨fun h => by simp [h] at hr, fun j hj => ?_⟩
    by_cases hji : j = i
    · subst hji
      exact hy.wpOp hi hS ⟨fun _ => hS, H⟩
    · have hm := ready_mono hj hji
      simp [H.1] at hm
  | succ fuel ih =>
    intro listed a w hfree hr hy hS H
    refine ⟨fun h => by simp [h] at hr, fun j hj => ?_⟩
    by_cases hji : j = i
    · subst hji
      exact hy.wpOp hi hS ⟨fun _ => hS, H⟩
    · have hjL : j ≠ L := fun e => by
        obtain ⟨_, o, ho, _⟩ := mem_ready.1 hj
        have := (Array.getElem?_eq_some_iff.1 ho).1
        omega
      obtain ⟨hjun, oj, hoj, hall⟩ := mem_ready.1 hj
      have hnot : ∀ e ∈ oj.after, Region.binds md e = true → e.on ≠ i := fun e he hb hon => by
        have h1 := hall e he hb
        have h0 := (mem_ready.1 hr).1
        rw [hon] at h1
        simp only [Array.getD_eq_getD_getElem?] at h0 h1
        cases hx : listed[i]? with
        | none => simp [hx] at h0
        | some b => simp [hx] at h0 h1; rw [h0] at h1; cases h1
      have h2 := wpOp_putIf hoj (hfree j oj hoj hji hjun hnot) (fun cs b => hsel i oi cs b hi) (fun cs b => hsel j oj cs b hoj) hQ hy (H.2 j (ready_mono hj hji))
      refine wpOp_mono (fun a' w' h3 => ?_) h2
      obtain ⟨hy', hS', hE⟩ := h3
      refine ⟨hS', ih (listed.setIfInBounds j true) a' w' (fun k ok hk hki hun hno => hfree k ok hk hki ?_ hno) (ready_mono hr (Ne.symm hji)) hy' (hS' hjL) ?_⟩
      · by_cases hjk : j = k
        · exact hjk ▸ hjun
        · rwa [getD_set_ne true hjk] at hun
      · rw [Array.setIfInBounds_comm _ _ hji]
        exact hE

/-- take number i first -/
theorem wpAnyE_takeN {i : Nat} {oi : Oper} (t : Nat) (v : Value) {fuel : Nat} {listed : Array Bool} {a : Act} {w : World} (hlast : ops.size ≤ L) (hi : ops[i]? = some oi)
    (hs : Region.noSelect ops = true) (hf : Region.free md ops listed i = true) (hr : (Region.ready md ops listed).contains i = true)
    (hQ : ∀ c a w, Q (.panic c) (a.put oi.dst v) w → Q (.panic c) a w) (hg : oi.guard = none) (ht : oi.dst = some t) (hS : S w) (hy : ∀ w, S w → (execOp a.eval oi).run P w = .ok (.value v) w)
    (h : wpAnyE P md ops Q S L fuel (listed.setIfInBounds i true) (a.put (some t) v) w) : wpAnyE P md ops Q S L (fuel + 1) listed a w :=
  wpAnyE_firstN hlast hi (Region.noSelect_spec hs) hQ fuel listed a w (Region.free_spec hi hf) (by simpa using hr) (.inl ⟨by simp [Region.wanted, hg], hy⟩) hS (by rw [ht]; exact h)
end

theorem exec_load128 {op : Oper} {ev : Operand → Value} {w : World} {b o : Nat} {ds : List Int} (hc : Rng8 w b o ds) (hg : ∃ x, op.op = .load 100 x ∧ ev x = .pointer (some ⟨b, o, none⟩)) : (execOp ev op).run Tryz.prog w = .ok (.value (.agg (u8s ds))) w := by
  obtain ⟨x, ho, hx⟩ := hg
  have h := load_rng hc
  simp only [execOp, ho, hx, Instr.loadAt, Instr.sureAddr, Sem.run_bind, Sem.run_pure, Result.andThen_ok, h]

/-- a fault of form, that holds b -/
def Flt (w : World) (b : Addr) (v : Value) : Prop := ∃ pb, v = .iface 92 (.pointer (some ⟨pb, 0, none⟩)) ∧ w.cell? ⟨pb, 0 + 1, none⟩ = some (.iface 146 (.pointer (some b)))
theorem row2 {w : World} {g : Nat} {x y : Value} {t : TypeId} (h : w.heap[g]? = some (.cells #[x, y] t (0, 0))) : w.cell? ⟨g, 0, none⟩ = some x ∧ w.cell? ⟨g, 1, none⟩ = some y ∧ w.frozen? ⟨g, 0, none⟩ = false ∧ w.frozen? ⟨g, 1, none⟩ = false := by
  refine ⟨?_, ?_, frozen_of_row w g 0 _ t h, frozen_of_row w g 1 _ t h⟩
  · rw [cell_of_row w g 0 _ t _ h]; rfl
  · rw [cell_of_row w g 1 _ t _ h]; rfl

/-- the top j bytes of a number of width bytes -/
def accT (zs : List Int) (at' width : Nat) : Nat → Int
  | 0 => 0
  | j + 1 => accT zs at' width j * 256 + zs.getD (at' + (width - 1 - j)) 0
theorem accT_in {zs : List Int} (h : ∀ i, 0 ≤ zs.getD i 0 ∧ zs.getD i 0 < 256) (at' width : Nat) : ∀ j, j ≤ 4 → 0 ≤ accT zs at' width j ∧ accT zs at' width j < 4294967296 := by
  have aux : ∀ j, 0 ≤ accT zs at' width j ∧ accT zs at' width j < 256 ^ j := by
    intro j
    induction j with
    | zero => simp [accT]
    | succ j ih =>
      have := h (at' + (width - 1 - j))
      rw [accT, Int.pow_succ]
      omega
  intro j hj
  have := aux j
  rcases (show j = 0 ∨ j = 1 ∨ j = 2 ∨ j = 3 ∨ j = 4 by omega) with rfl | rfl | rfl | rfl | rfl <;> simp at this ⊢ <;> omega

set_option maxHeartbeats 1000000 in
theorem l2At_any (b off c at' width : Nat) (zs : List Int) (w : World) (hv : Bts w (.slice (some ⟨b, off, none⟩) zs.length c) zs) (hw : width ≤ 4) (hn : at' + width ≤ zs.length) (hl : zs.length ≤ 1048576) :
    Calls Tryz.prog 21 #[.slice (some ⟨b, off, none⟩) zs.length c, .int .i64 at', .int .i64 width] w fun e w' => e = .returned (.int .i64 (accT zs at' width width)) ∧ w = w' := by
  have hsm := hv.small
  obtain ⟨_, _, he, hc⟩ := hv.shape
  simp only [Value.slice.injEq, true_and] at he
  obtain ⟨rfl, rfl⟩ := he
  have hw1 : IntKind.i64.wrap ((width : Int) - 1) = (width : Int) - 1 := IntWalk.i64_in _ ⟨by omega, by omega⟩
  go_enter Tryz.func21, Tryz.ntmps21
  go_wp2_with fail
  go_loopw [7, 8] (fun v i wr => ∃ j : Nat, j ≤ width ∧ i = .int .i64 ((width : Int) - 1 - j) ∧ v = .int .i64 (accT zs at' width j) ∧ wr = w) (fun _ i _ => (intOf i + 1).toNat)
  case atStart => exact ⟨0, Nat.zero_le _, by simp, rfl, rfl⟩
  case round =>
    obtain ⟨j, hj, rfl, rfl, rfl⟩ := hrel
    by_cases hlt : j < width
    · obtain ⟨b', off', ha, hcell⟩ := hc (by omega)
      simp only [Option.some.injEq, Addr.mk.injEq, and_true] at ha
      obtain ⟨rfl, rfl⟩ := ha
      have hge : (0 : Int) ≤ (width : Int) - 1 - j := by omega
      obtain ⟨x, hx⟩ : ∃ x : Nat, x = at' + (width - 1 - j) := ⟨_, rfl⟩
      have c0 := hcell x (by omega)
      have hi1 : IntKind.i64.wrap ((at' : Int) + ((width : Int) - 1 - j)) = (x : Int) := (IntWalk.i64_in _ ⟨by omega, by omega⟩).trans (by omega)
      have hi2 : (x : Int) < (zs.length : Int) := by omega
      have hz := hsm x
      have hA := accT_in hsm at' width j (by omega)
      have hstep : accT zs at' width (j + 1) = accT zs at' width j * 256 + zs.getD x 0 := by rw [accT, hx]
      have HST : Hid (accT zs at' width (j + 1) = accT zs at' width j * 256 + zs.getD x 0) := hstep
      generalize accT zs at' width j = A at *
      generalize zs.getD x 0 = z at *
      have hm1 : IntKind.i64.wrap (A * 256) = A * 256 := IntWalk.i64_in _ ⟨by omega, by omega⟩
      have hm2 : IntKind.i64.wrap (A * 256 + z) = A * 256 + z := IntWalk.i64_in _ ⟨by omega, by omega⟩
      have hm3 : IntKind.i64.wrap ((width : Int) - 1 - j - 1) = (width : Int) - 1 - j - 1 := IntWalk.i64_in _ ⟨by omega, by omega⟩
      clear hstep hsm hA hc hcell hx
      go_wp2
      go_roundw
      case rel => exact ⟨j + 1, by omega, by congr 1; omega, by rw [HST.out], trivial⟩
      case measure => simp [intOf]; omega
    · obtain rfl : j = width := by omega
      have hge : ¬ (0 : Int) ≤ (j : Int) - 1 - j := by omega
      clear hc hsm
      go_wp2
      go_ret
      exact ⟨rfl, rfl⟩

theorem methodCheckT (v : Value) (w : World) : (Go.method 284 82 v "loop.example/s01595/impl.check").run Tryz.prog w = .ok (100, v) w := by kernel_rfl
theorem methodLayT (v : Value) (w : World) : (Go.method 284 82 v "loop.example/s01595/impl.lay").run Tryz.prog w = .ok (101, v) w := by kernel_rfl

set_option maxHeartbeats 1000000 in
theorem codeOf_nil (w : World) : Calls Tryz.prog 29 #[.nilIface] w fun e w' => e = .returned (.int .i64 0) ∧ Below w.heap.size w w' := by
  have hb := belowA w
  go_enter Tryz.func29, Tryz.ntmps29
  go_wp2
  go_ret
  exact ⟨rfl, hb _⟩

theorem tabL_length {nx : Int} {rs : List R3} (h : rs.length ≤ 20) : (tabL nx rs).length = 128 := sealL_length _ (by rw [tabP_length]; omega)

set_option maxHeartbeats 1000000 in
theorem headerOf_any (k n : Int) (hn : -9223372036854775808 ≤ n ∧ n ≤ 9223372036854775807) (w : World) : Calls Tryz.prog 34 #[.int .i64 k, .int .i64 n] w fun e w' => e = .returned (.agg #[.int .i64 k, .int .i64 n]) ∧ Below w.heap.size w w' := by
  have hb := belowA w
  go_enter Tryz.func34, Tryz.ntmps34
  go_wp2
  exact bodyPost_ret (v := .agg #[.int .i64 k, .int .i64 n]) (by simp [results, Tryz.results34, go_sem]) rfl ⟨rfl, hb _⟩
end Go.Proofs.YtfbjagjgofdheaaGreatDoor

namespace Go.Proofs.YtfbjagjgofdheaaGreatDoor
open Go.RowKit
set_option linter.unusedVariables false

theorem mapM_all {α β : Type} (f : α → Option β) (g : α → β) : ∀ l : List α, (∀ x ∈ l, f x = some (g x)) → l.mapM f = some (l.map g)
  | [], _ => by simp
  | x :: l, h => by
    rw [List.mapM_cons, h x (by simp), mapM_all f g l (fun y hy => h y (by simp [hy]))]
    rfl
theorem cells128 : Tryz.prog.cellsOf 100 = 128 := by kernel_rfl
theorem cells1 : Tryz.prog.cellsOf 5 = 1 := by kernel_rfl
theorem wf_u8 (x : Int) (h : 0 ≤ x ∧ x < 256) : (Lit.int .u8 x).wf = true := by
  have e1 : IntKind.u8.min = 0 := by kernel_rfl
  have e2 : IntKind.u8.max = 255 := by kernel_rfl
  simp only [Lit.wf, e1, e2, Bool.and_eq_true, decide_eq_true_eq]
  omega
theorem lits128 (a : List Int) (ha : a.length = 128) (hb : Byt a) : Tryz.prog.keyLits 2 100 (Value.agg (u8s a)).cells.toList = some (a.map (Lit.int .u8)) := by
  have hl : (Value.agg (u8s a)).cells.toList = a.map (Value.int .u8) := by simp [Value.cells, u8s]
  rw [hl]
  unfold Program.keyLits
  rw [Tryz.underlying100]
  simp only [List.length_map, ha, cells128, cells1, if_true]
  rw [mapM_all _ (fun i => [Lit.int .u8 (a.getD i 0)]) _ (fun i hi => ?_)]
  · simp only [Option.map_some, Option.some.injEq]
    have hfl : ∀ l : List Nat, (l.map fun i => [Lit.int .u8 (a.getD i 0)]).flatten = l.map fun i => Lit.int .u8 (a.getD i 0) := fun l => by
      induction l with
      | nil => rfl
      | cons x l ih => simp only [List.map_cons, List.flatten_cons, ih, List.singleton_append]
    rw [hfl]
    apply List.ext_getElem?
    intro i
    by_cases h : i < 128
    · simp [h, show i < a.length by omega]
    · simp [h, show a.length ≤ i by omega]
  · have hi' : i < a.length := by simp at hi; omega
    have e : List.take 1 (List.drop (i * 1) (a.map (Value.int .u8))) = [.int .u8 (a.getD i 0)] := by
      rw [Nat.mul_one, List.drop_eq_getElem_cons (by simpa using hi')]
      simp [hi']
    rw [e]
    unfold Program.keyLits
    rw [Tryz.underlying5]
    have q := wf_u8 _ (hb i)
    simp only [q, and_self, if_true]

/-- two blocks are held against one another -/
theorem arr_eq (a b : List Int) (ha : a.length = 128) (hb : b.length = 128) (hba : Byt a) (hbb : Byt b) (w : World) : (Op.equalIn 10000 100 (.agg (u8s a)) (.agg (u8s b))).run Tryz.prog w = .ok (decide (a = b)) w := by
  have hf : ∀ c : List Int, c.length = 128 → (Value.agg (u8s c)).formed Tryz.prog 100 = true := fun c hc => by
    simp [Value.formed, Tryz.underlying100, cells128, u8s, hc]
  obtain ⟨r, hr, hiff⟩ := run_equalIn_deep (P := Tryz.prog) 9998 2 100 (by kernel_rfl) w 2 2 (.agg (u8s a)) (.agg (u8s b)) _ _ (hf a ha) (hf b hb) (lits128 a ha hba) (lits128 b hb hbb)
  have e : r = decide (a = b) := by
    have hinj : a.map (Lit.int .u8) = b.map (Lit.int .u8) ↔ a = b := by
      constructor
      · intro h
        have := congrArg (List.map fun (l : Lit) => match l with | .int _ z => z | _ => 0) h
        simpa [List.map_map, Function.comp_def] using this
      · rintro rfl; rfl
    rw [hinj] at hiff
    by_cases h : a = b
    · rw [decide_eq_true h]; exact hiff.2 h
    · rw [decide_eq_false h]; exact Bool.eq_false_iff.2 fun q => h (hiff.1 q)
  rw [← e]
  exact hr
end Go.Proofs.YtfbjagjgofdheaaGreatDoor

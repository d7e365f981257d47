import Derived.Test.YtpjdhfbeofdplaaGreatDoorRows
import Derived.WalkKit
import Derived.Orders
namespace Go.Proofs.YtpjdhfbeofdplaaGreatDoor
open Go.RowKit

section
variable {P : Program} {ops : Array Oper} {Q : Exit → Act → World → Prop} {md : Region.Mode}

/-- what is listed is closed under what each waits for -/
def Clsd (md : Region.Mode) (ops : Array Oper) (l : Array Bool) : Prop := ∀ k, l.getD k false = true → ∀ o, ops[k]? = some o → ∀ e ∈ o.after, Region.binds md e = true → l.getD e.on false = true

theorem getD_set_self {l : Array Bool} {i : Nat} (h : l.getD i true = false) : (l.setIfInBounds i true).getD i false = true := by
  have hi : i < l.size := by
    by_cases hh : i < l.size
    · exact hh
    · simp [Array.getElem?_eq_none (Nat.le_of_not_lt hh)] at h
  simp [hi]

/-- an order that is drawn: what holds whichever operation is picked -/
theorem wpAny_inv (I : Array Bool → Act → World → Prop)
    (hstep : ∀ l a w, l.size = ops.size → Clsd md ops l → I l a w → ∀ i o, ops[i]? = some o → l.getD i true = false → l.getD i false = false → (∀ e ∈ o.after, Region.binds md e = true → l.getD e.on false = true) → wpOp P ops Q i (fun a' w' => I (l.setIfInBounds i true) a' w') a w)
    (hend : ∀ l a w, l.size = ops.size → I l a w → (∀ i, i < ops.size → l.getD i false = true) → Q .normal a w)
    (hsrt : ∀ l : Array Bool, l.size = ops.size → Region.ready md ops l = [] → ∀ i, i < ops.size → l.getD i false = true) :
    ∀ (fuel : Nat) (l : Array Bool) (a : Act) (w : World), l.size = ops.size → Clsd md ops l → l.toList.count false = fuel → I l a w → wpAny P md ops Q fuel l a w := by
  intro fuel
  induction fuel with
  | zero =>
    intro l a w hs _ hc hI
    have hall : ∀ i, i < ops.size → l.getD i false = true := fun i hi => by
      have hil : i < l.size := by omega
      cases hb : l[i] with
      | true => simp [hil, hb]
      | false =>
        exfalso
        have hm : false ∈ l.toList := by rw [← hb]; exact Array.getElem_mem_toList hil
        have := List.count_pos_iff.2 hm
        omega
    have hr : Region.ready md ops l = [] := by
      cases hrr : Region.ready md ops l with
      | nil => rfl
      | cons j r =>
        exfalso
        obtain ⟨h1, o, ho, _⟩ := mem_ready.1 (show j ∈ Region.ready md ops l by rw [hrr]; simp)
        have hj : j < ops.size := (Array.getElem?_eq_some_iff.1 ho).1
        have h2 := hall j hj
        have hjl : j < l.size := by omega
        simp [hjl] at h1 h2
        rw [h1] at h2; cases h2
    exact ⟨hr, hend l a w hs hI hall⟩
  | succ fuel ih =>
    intro l a w hs hcl hc hI
    refine ⟨fun hr => hend l a w hs hI (hsrt l hs hr), fun i hi => ?_⟩
    obtain ⟨h1, o, ho, hd⟩ := mem_ready.1 hi
    have hio : i < ops.size := (Array.getElem?_eq_some_iff.1 ho).1
    have hil : i < l.size := by omega
    have hlf : l[i] = false := by simpa [hil] using h1
    have h1' : l.getD i false = false := by simp [hil, hlf]
    refine wpOp_mono (fun a' w' hI' => ih (l.setIfInBounds i true) a' w' (by simpa using hs) ?_ ?_ hI') (hstep l a w hs hcl hI i o ho h1 h1' hd)
    · intro k hk o' ho' e he hb
      by_cases hki : i = k
      · subst hki
        obtain rfl := Option.some.inj (ho.symm.trans ho')
        exact getD_set_true (hd e he hb)
      · rw [getD_set_ne false hki] at hk
        exact getD_set_true (hcl k hk o' ho' e he hb)
    · have hlt : i < l.toList.length := by simpa using hil
      rw [Array.toList_setIfInBounds, List.count_set hlt]
      have : l.toList[i] = false := by simpa using hlf
      have hc2 : Array.count false l = fuel + 1 := by simpa using hc
      simp [this, hc2]

/-- each waits for earlier ones alone -/
theorem all_listed (hlt : ∀ (k : Nat) (o : Oper), ops[k]? = some o → ∀ e ∈ o.after, e.on < k) (l : Array Bool) (hs : l.size = ops.size) (hr : Region.ready md ops l = []) : ∀ i, i < ops.size → l.getD i false = true := by
  intro i
  induction i using Nat.strongRecOn with
  | ind i ih =>
    intro hi
    have hil : i < l.size := by omega
    cases hb : l[i] with
    | true => simp [hil, hb]
    | false =>
      exfalso
      have : i ∈ Region.ready md ops l := mem_ready.2 ⟨by simp [hil, hb], ops[i], Array.getElem?_eq_getElem hi, fun e he _ => by
        have := hlt i _ (Array.getElem?_eq_getElem hi) e he
        exact ih e.on this (by omega)⟩
      rw [hr] at this
      cases this

theorem ahead_of (h : (ops.toList.zipIdx.all fun p => p.1.after.toList.all fun e => decide (e.on < p.2)) = true) (k : Nat) (o : Oper) (ho : ops[k]? = some o) : ∀ e ∈ o.after, e.on < k := fun e he => by
  have hm : (o, k) ∈ ops.toList.zipIdx := by
    rw [List.mem_zipIdx_iff_getElem?]
    simpa using ho
  have h1 := List.all_eq_true.1 h _ hm
  exact of_decide_eq_true (List.all_eq_true.1 h1 e (by simpa using he))

/-- an operation that is carried out whatever was yielded -/
theorem wpOp_do {i : Nat} {o : Oper} {K : Act → World → Prop} {a : Act} {w : World} (ho : ops[i]? = some o) (hg : o.guard = none) (h : o.wp P a w K Q) : wpOp P ops Q i K a w := by
  unfold wpOp
  simp only [ho]
  rw [if_pos (by simp [Region.wanted, hg])]
  exact .inl h

end
end Go.Proofs.YtpjdhfbeofdplaaGreatDoor

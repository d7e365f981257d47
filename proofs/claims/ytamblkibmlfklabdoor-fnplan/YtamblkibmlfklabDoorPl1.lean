import Derived.Test.YtamblkibmlfklabDoorFr3
import Derived.Test.YtamblkibmlfklabDoorRn3
import Derived.Lib.SliceRun
namespace Go.Proofs.YtamblkibmlfklabDoor
open Go.RowKit

/-- the counts with 1 at the blocks of fr -/
def ones {n : Nat} (zs : List Int) (fr : List (Blk n)) : List Int := fr.foldl (fun l x => l.set x.1 1) zs
theorem ones_snoc {n : Nat} (zs : List Int) (fr : List (Blk n)) (x : Blk n) : ones zs (fr ++ [x]) = (ones zs fr).set x.1 1 := by simp [ones]
theorem ones_length {n : Nat} (zs : List Int) (fr : List (Blk n)) : (ones zs fr).length = zs.length := by
  induction fr generalizing zs with
  | nil => rfl
  | cons x l ih => simp only [ones, List.foldl_cons] at ih ⊢; rw [ih]; simp
theorem set_small {zs : List Int} (h : ∀ i, -9223372036854775808 ≤ zs.getD i 0 ∧ zs.getD i 0 ≤ 9223372036854775807) (j i : Nat) : -9223372036854775808 ≤ (zs.set j 1).getD i 0 ∧ (zs.set j 1).getD i 0 ≤ 9223372036854775807 := by
  have hi := h i
  simp only [List.getD_eq_getElem?_getD, List.getElem?_set] at hi ⊢
  by_cases e : j = i
  · subst e
    rw [if_pos rfl]
    by_cases hj : j < zs.length <;> simp [hj]
  · rw [if_neg e]; exact hi
theorem ones_small {n : Nat} {zs : List Int} (fr : List (Blk n)) (h : ∀ i, -9223372036854775808 ≤ zs.getD i 0 ∧ zs.getD i 0 ≤ 9223372036854775807) : ∀ i, -9223372036854775808 ≤ (ones zs fr).getD i 0 ∧ (ones zs fr).getD i 0 ≤ 9223372036854775807 := by
  induction fr generalizing zs with
  | nil => exact h
  | cons x l ih => exact ih (set_small h x.1)

/-- the runs of the counts with those blocks -/
def rnO {n : Nat} (zs : List Int) (fr : List (Blk n)) : List (Int × Int × Int) := rns (ones zs fr) zs.length
/-- they have their place in the table -/
def good {n : Nat} (zs : List Int) (fr : List (Blk n)) : Bool := decide ((rnO zs fr).length ≤ 20 * fr.length)
theorem rnO_length {n : Nat} (zs : List Int) (fr : List (Blk n)) : (rnO zs fr).length ≤ zs.length := rns_length _ _

/-- one less than the number of table blocks -/
def planK (zs ys : List Int) : Option Nat := (List.range (frs zs ys zs.length zs.length).length).find? fun j => good zs ((frs zs ys zs.length zs.length).take (j + 1))
theorem planK_none {zs ys : List Int} (h : ∀ j, j < (frs zs ys zs.length zs.length).length → good zs ((frs zs ys zs.length zs.length).take (j + 1)) = false) : planK zs ys = none :=
  List.find?_range_eq_none.2 fun i hi => by rw [h i hi]; rfl
theorem planK_some {zs ys : List Int} {j : Nat} (hj : j < (frs zs ys zs.length zs.length).length) (hg : good zs ((frs zs ys zs.length zs.length).take (j + 1)) = true) (h : ∀ i, i < j → good zs ((frs zs ys zs.length zs.length).take (i + 1)) = false) : planK zs ys = some j :=
  List.find?_range_eq_some.2 ⟨hg, List.mem_range.2 hj, fun i hi => by rw [h i hi]; rfl⟩

/-- the plan's blocks -/
def plF (zs ys : List Int) : List (Blk zs.length) := if chk [zs, ys] = 0 then (match planK zs ys with
  | none => []
  | some j => (frs zs ys zs.length zs.length).take (j + 1)) else []
/-- PlanTable's three answers -/
def plP (zs ys : List Int) : List Int := (plF zs ys).map fun x => (x.1 : Int)
def plR (zs ys : List Int) : List (Int × Int × Int) := if chk [zs, ys] = 0 then (match planK zs ys with
  | none => []
  | some j => rnO zs ((frs zs ys zs.length zs.length).take (j + 1))) else []
def plC (zs ys : List Int) : Int := if chk [zs, ys] = 0 then (match planK zs ys with
  | none => 7
  | some _ => 0) else chk [zs, ys]

theorem pl_no {zs ys : List Int} (h : chk [zs, ys] ≠ 0) : plP zs ys = [] ∧ plR zs ys = [] ∧ plC zs ys = chk [zs, ys] := by
  simp [plP, plF, plR, plC, h]
theorem pl_none {zs ys : List Int} (h : chk [zs, ys] = 0) (hk : planK zs ys = none) : plP zs ys = [] ∧ plR zs ys = [] ∧ plC zs ys = 7 := by
  simp [plP, plF, plR, plC, h, hk]
theorem pl_some {zs ys : List Int} {j : Nat} (h : chk [zs, ys] = 0) (hk : planK zs ys = some j) : plP zs ys = ((frs zs ys zs.length zs.length).take (j + 1)).map (fun x => (x.1 : Int)) ∧ plR zs ys = rnO zs ((frs zs ys zs.length zs.length).take (j + 1)) ∧ plC zs ys = 0 := by
  simp [plP, plF, plR, plC, h, hk]

theorem plP_length (zs ys : List Int) : (plP zs ys).length ≤ 512 := by
  by_cases h : chk [zs, ys] = 0
  · have hl := (chk_ok (chk_two_ok h).2.1).1
    have hf := frs_length zs ys zs.length zs.length
    cases hk : planK zs ys with
    | none => rw [(pl_none h hk).1]; simp
    | some j => rw [(pl_some h hk).1]; simp; omega
  · rw [(pl_no h).1]; simp
theorem plR_length (zs ys : List Int) : (plR zs ys).length ≤ 512 := by
  by_cases h : chk [zs, ys] = 0
  · have hl := (chk_ok (chk_two_ok h).2.1).1
    cases hk : planK zs ys with
    | none => rw [(pl_none h hk).2.1]; simp
    | some j => rw [(pl_some h hk).2.1]; have := rnO_length zs ((frs zs ys zs.length zs.length).take (j + 1)); omega
  · rw [(pl_no h).2.1]; simp

/-- 'append(out, src...)' of numbers -/
theorem wpList_append64s {ops : Array Oper} {rest : List Oper} {o : Oper} {a : Act} {w : World} {Q : Exit → Act → World → Prop} (hgd : o.guard = none) (s x : Operand)
    (ho : o.op = .call { callee := .builtin .append, args := #[s, x], argTypes := #[23, 23] })
    {base : Nat} {v : Value} {zs ys : List Int} (hown : Row64 base w v zs) {ad : Addr} {n c : Nat} (hn : ys.length = n) (hsrc : ∀ i, i < n → w.cell? (ad.add i) = some (.int .i64 (ys.getD i 0))) (hs : a.eval s = v) (hx : a.eval x = .slice (some ad) n c)
    (hlen : zs.length + n < 8589934592) (hb : base ≤ w.heap.size)
    (h : ∀ v' w', Row64 base w' v' (zs ++ ys) → Below base w w' → wpList Tryd.prog ops Q rest (a.put o.dst v') w') :
    wpList Tryd.prog ops Q (o :: rest) a w := by
  obtain ⟨i0, hi, hz0, hz1, hz2⟩ := info_parts info64
  refine wpList_append_own _ hgd s x 23 ho base 2 i0 (.int .i64 0) 1 8 Tryd.underlying23 hi hz0 hz1 hz2 rfl (by decide) v _ _ hs hown ad n c (ys.map (Value.int .i64)) hx (by simp [hn]) ?_ ?_ ?_ ?_ hb ?_
  · intro j u hj
    have hjl : j < ys.length := by
      by_cases hh : j < ys.length
      · exact hh
      · simp [show ys.length ≤ j by omega] at hj
    rw [hsrc j (by omega)]
    simp only [List.getElem?_map, List.getElem?_eq_getElem hjl, Option.map_some, Option.some.injEq] at hj
    rw [← hj]; simp [hjl]
  · intro u hu
    simp only [List.mem_map] at hu
    obtain ⟨z, _, rfl⟩ := hu
    rfl
  · unfold maxLen; omega
  · omega
  · intro v' w' h1 h2 _
    refine h v' w' ?_ ((Below.refl base w).grown h2 hb (fun k hk => (hown.lt k hk).1))
    unfold Row64
    simpa [hn] using h1

theorem Addr.add_at (b off i : Nat) : (({ block := b, off := off, spot := none } : Addr).add i) = ⟨b, off + i, none⟩ := by
  unfold Addr.add; by_cases h0 : i = 0 <;> simp [h0]

set_option maxHeartbeats 1000000 in
theorem clone64_any (a : Option Addr) (c : Nat) (zs : List Int) (w : World) (hp : 0 < zs.length) (hn : zs.length ≤ 1048576) (hv : Nts w (.slice a zs.length c) zs) :
    Calls Tryd.prog 19 #[.slice a zs.length c] w fun e w' => ∃ u, e = .returned u ∧ Row64 w.heap.size w' u zs ∧ Below w.heap.size w w' := by
  obtain ⟨_, _, he, hs⟩ := hv.shape
  simp only [Value.slice.injEq, true_and] at he
  obtain ⟨rfl, rfl⟩ := he
  obtain ⟨b, off, rfl, hcell⟩ := hs hp
  have hnil := fun w => Lib.run_eql_slice_nil (P := Tryd.prog) w 23 2 (some ⟨b, off, none⟩) zs.length c 0 0 Tryd.underlying23
  have hrow := Row64.lit w.heap.size w (Nat.le_refl _) w.heap.size rfl
  have hsrc : ∀ i, i < zs.length → (w.alloc (.cells #[] 2)).cell? ((⟨b, off, none⟩ : Addr).add i) = some (.int .i64 (zs.getD i 0)) := fun i hi => by
    rw [Addr.add_at, World.cell?_alloc_past _ _ _ (World.block_lt_of_cell? _ _ (hcell i (by omega)))]
    exact hcell i (by omega)
  have hbA := belowA w (.cells #[] 2)
  have HL : Hid (∀ (v' : Value) (w' : World), Row64 w.heap.size w' v' ([] ++ zs) → Row64 w.heap.size w' v' zs) := fun _ _ h => h
  clear hs hcell hv
  go_enter Tryd.func19, Tryd.ntmps19
  go_wp2_with (at_builtin; refine wpList_append64s rfl _ _ rfl hrow rfl hsrc rfl rfl (by simp; omega) (by simp) ?_; intro v' w1 hown1 hbel1)
  go_ret
  exact ⟨v', rfl, HL.out _ _ hown1, hbA.trans hbel1⟩
end Go.Proofs.YtamblkibmlfklabDoor

import Derived.Test.YtamblkibmlfklabDoorPl1
import Derived.RangeFuncNested
import Derived.RangeFuncBox
import Derived.Maps.AppendAt
namespace Go.Proofs.YtamblkibmlfklabDoor
open Go.RowKit Go.Shelf
set_option linter.unusedVariables false

theorem boxed_below {W W' : World} {B : Nat} {t : TypeId} {v : Value} (h : Boxed W B t v) (k : Below W.heap.size W W') : Boxed W' B t v := (k.block B h.lt).trans h

theorem own64_own {β : Type} (lo hi : Nat) (v : Value) (f : β → List Int) : Own (fun s W => Own64 lo hi W v (f s)) := by
  rintro s X Y row h hg hrow
  obtain ⟨a, cap, hv, hc⟩ := h.shape
  refine ⟨h.small, a, cap, hv, fun hp => ?_⟩
  obtain ⟨b, off, ha, h1, h2, h3, hcell⟩ := hc hp
  refine ⟨b, off, ha, h1, h2, Nat.lt_of_lt_of_le h3 hg.size, fun i hi => ?_⟩
  obtain ⟨e1, e2⟩ := hcell i hi
  exact ⟨cell_kept e1 hg hrow, (frozen_kept e1 hg hrow).trans e2⟩

/-- the state of PlanTable's loop: pre has come; the plan's box holds v -/
structure PlS (w : World) (s g cap : Nat) (cs ct : Value) (zs : List Int) (pre : List (Blk zs.length)) (v : Value) (W : World) : Prop where
  plan : Boxed W (s + 1) 23 v
  row : W.ownsRow s 2 1 v pre.length (pre.map fun x => Value.int .i64 (x.1 : Int))
  cbox : Boxed W s 23 (.slice (some ⟨g, 0, none⟩) zs.length cap)
  cnt : Own64 g (g + 1) W (.slice (some ⟨g, 0, none⟩) zs.length cap) (ones zs pre)
  r0 : Boxed W w.heap.size 23 (.slice none 0 0)
  r1 : Boxed W (w.heap.size + 1) 26 (.slice none 0 0)
  r2 : Boxed W (w.heap.size + 1 + 1) 2 (.int .i64 0)
  bs : Boxed W (s + 1 + 1) 23 cs
  bt : Boxed W (s + 1 + 1 + 1) 23 ct
  bel : Below w.heap.size w W

theorem plS_own {w : World} {s g cap : Nat} {cs ct : Value} {zs : List Int} (hs : w.heap.size ≤ s) : OwnFrom s (fun (pre : List (Blk zs.length)) W => ∃ v, PlS w s g cap cs ct zs pre v W) := by
  rintro pre X Y row ⟨v, h⟩ hg hr
  have hr' : ∀ r, row = some r → ∃ o : Obj, X.heap[r]? = some o ∧ o.isCells = false := fun r e => (hr r e).2
  obtain ⟨v', e1, e2, e3⟩ := holdsRow_own (β := Unit) s (s + 1) 23 2 1 (fun _ => pre.length) (fun _ => pre.map fun x => Value.int .i64 (x.1 : Int)) (fun _ u => u = v) () X Y row ⟨v, h.plan, h.row, rfl⟩ hg hr'
  subst e3
  exact ⟨v', e1, e2, boxed_own (β := Unit) _ _ (fun _ => _) () X Y row h.cbox hg hr', own64_own (β := Unit) _ _ _ (fun _ => ones zs pre) () X Y row h.cnt hg hr', boxed_own (β := Unit) _ _ (fun _ => _) () X Y row h.r0 hg hr', boxed_own (β := Unit) _ _ (fun _ => _) () X Y row h.r1 hg hr', boxed_own (β := Unit) _ _ (fun _ => _) () X Y row h.r2 hg hr', boxed_own (β := Unit) _ _ (fun _ => _) () X Y row h.bs hg hr', boxed_own (β := Unit) _ _ (fun _ => _) () X Y row h.bt hg hr', ownFrom_below (β := Unit) (Nat.le_refl _) hs () X Y row h.bel hg hr⟩

/-- behind 'plan = append(plan, block)' -/
theorem PlS.appended {w W w1 : World} {s g cap : Nat} {cs ct : Value} {zs : List Int} {pre : List (Blk zs.length)} {v v' : Value} {tmp : Obj} {x : Blk zs.length} (h : PlS w s g cap cs ct zs pre v W) (hs : w.heap.size + 3 < s) (hg : g < s) (hgw : w.heap.size + 3 < g)
    (hown : w1.ownsRow s 2 1 v' (pre.length + 1) ((pre.map fun x => Value.int .i64 (x.1 : Int)) ++ [.int .i64 (x.1 : Int)])) (hgrow : (W.alloc tmp).grownBy w1 v.ownBlock) :
    Boxed w1 (s + 1) 23 v ∧ Boxed (w1.setCell ⟨s + 1, 0, none⟩ v') (s + 1) 23 v' ∧ (w1.setCell ⟨s + 1, 0, none⟩ v').ownsRow s 2 1 v' (pre ++ [x]).length ((pre ++ [x]).map fun x => Value.int .i64 (x.1 : Int)) ∧
    Boxed (w1.setCell ⟨s + 1, 0, none⟩ v') s 23 (.slice (some ⟨g, 0, none⟩) zs.length cap) ∧ Own64 g (g + 1) (w1.setCell ⟨s + 1, 0, none⟩ v') (.slice (some ⟨g, 0, none⟩) zs.length cap) (ones zs pre) ∧
    Boxed (w1.setCell ⟨s + 1, 0, none⟩ v') w.heap.size 23 (.slice none 0 0) ∧ Boxed (w1.setCell ⟨s + 1, 0, none⟩ v') (w.heap.size + 1) 26 (.slice none 0 0) ∧ Boxed (w1.setCell ⟨s + 1, 0, none⟩ v') (w.heap.size + 1 + 1) 2 (.int .i64 0) ∧
    Boxed (w1.setCell ⟨s + 1, 0, none⟩ v') (s + 1 + 1) 23 cs ∧ Boxed (w1.setCell ⟨s + 1, 0, none⟩ v') (s + 1 + 1 + 1) 23 ct ∧ Below s W (w1.setCell ⟨s + 1, 0, none⟩ v') ∧ KeepsOthers W (w1.setCell ⟨s + 1, 0, none⟩ v') := by
  have hsW : s ≤ W.heap.size := by have := h.cbox.lt; omega
  obtain ⟨e1, e2, e3, e4, e5⟩ := h.plan.appended (by decide) h.row hsW (by omega) hown hgrow
  have hkeep : ∀ {B : Nat} {u : Value}, Boxed W B 23 u → B ≠ s + 1 → Boxed (w1.setCell ⟨s + 1, 0, none⟩ v') B 23 u := fun hb hne => ((hb.alloc tmp).kept hgrow (hb.not_row (by decide) h.row)).other hne _
  have hlow : ∀ {B : Nat} {t : TypeId} {u : Value}, Boxed W B t u → B < s → Boxed (w1.setCell ⟨s + 1, 0, none⟩ v') B t u := fun hb hB => (e5.block _ hB).trans hb
  exact ⟨e1, e2, by simpa using e3, hkeep h.cbox (by omega), h.cnt.kept e5.size fun b h1 h2 _ => e5.block b (by omega), hlow h.r0 (by omega), hlow h.r1 (by omega), hlow h.r2 (by omega), hkeep h.bs (by omega), hkeep h.bt (by omega), e5, e4⟩

/-- ahead of the store -/
theorem PlS.mid {w W w1 : World} {s g cap : Nat} {cs ct : Value} {zs : List Int} {pre : List (Blk zs.length)} {v : Value} {tmp : Obj} (x : Blk zs.length) (h : PlS w s g cap cs ct zs pre v W) (hg : g < s) (hgrow : (W.alloc tmp).grownBy w1 v.ownBlock) :
    w1.cell? ⟨s, 0, none⟩ = some (.slice (some ⟨g, 0, none⟩) zs.length cap) ∧ w1.cell? ⟨g, x.1, none⟩ = some (.int .i64 ((ones zs pre).getD x.1 0)) ∧ w1.frozen? ⟨g, x.1, none⟩ = false := by
  have e1 : Boxed w1 s 23 (.slice (some ⟨g, 0, none⟩) zs.length cap) := (h.cbox.alloc tmp).kept hgrow (h.cbox.not_row (by decide) h.row)
  have hgb : w1.heap[g]? = W.heap[g]? := by
    have hgW : g < W.heap.size := by have := h.cbox.lt; omega
    rw [hgrow.block g (by simp; omega) (fun e => ?_)]
    · exact Below.heap_alloc W tmp g hgW
    · rcases h.row.2 with ⟨rfl, _⟩ | ⟨gg, _, _, rfl, hb, _⟩
      · simp [Value.ownBlock] at e
      · simp [Value.ownBlock] at e; omega
  have hge : ∀ b, g ≤ b → b < g + 1 → b < W.heap.size → w1.heap[b]? = W.heap[b]? := fun b h1 h2 _ => by rw [show b = g by omega]; exact hgb
  have e2 := h.cnt.kept (w' := w1) (by have := hgrow.size; simp at this; omega) hge
  obtain ⟨_, _, he, hs⟩ := e2.shape
  simp only [Value.slice.injEq] at he
  obtain ⟨rfl, he2, rfl⟩ := he
  have hx := x.2.2
  obtain ⟨_, _, he, _, _, _, h4⟩ := hs (by omega)
  simp only [Option.some.injEq, Addr.mk.injEq, and_true] at he
  obtain ⟨rfl, rfl⟩ := he
  obtain ⟨q1, q2⟩ := h4 x.1 (by omega)
  rw [Nat.zero_add] at q1 q2
  exact ⟨e1.cell, q1, q2⟩

theorem keepsOthers_below {W W' : World} (h : Below W.heap.size W W') : KeepsOthers W W' := ⟨h.size, fun k o hk _ => (h.block k (Array.getElem?_eq_some_iff.1 hk).1).trans hk⟩

theorem plS_below {w W W' : World} {s g cap : Nat} {cs ct : Value} {zs : List Int} {pre : List (Blk zs.length)} {v : Value} (h : PlS w s g cap cs ct zs pre v W) (k : Below W.heap.size W W') : PlS w s g cap cs ct zs pre v W' :=
  ⟨boxed_below h.plan k, by
    rcases h.row.2 with e | ⟨gg, cc, cu, hv, e1, e2, e3⟩
    · exact ⟨h.row.1, .inl e⟩
    · exact ⟨h.row.1, .inr ⟨gg, cc, cu, hv, e1, (k.block gg (Array.getElem?_eq_some_iff.1 e2).1).trans e2, e3⟩⟩, boxed_below h.cbox k, h.cnt.below k, boxed_below h.r0 k, boxed_below h.r1 k, boxed_below h.r2 k, boxed_below h.bs k, boxed_below h.bt k, h.bel.trans (k.mono h.bel.size)⟩

/-- behind 'plan = append(plan, block)' and 'counts[block] = 1' -/
theorem PlS.next {w W w1 : World} {s g cap : Nat} {cs ct : Value} {zs : List Int} {pre : List (Blk zs.length)} {v v' : Value} {tmp : Obj} {x : Blk zs.length} (h : PlS w s g cap cs ct zs pre v W) (hs : w.heap.size + 3 < s) (hg : g < s) (hgw : w.heap.size + 3 < g)
    (hown : w1.ownsRow s 2 1 v' (pre.length + 1) ((pre.map fun x => Value.int .i64 (x.1 : Int)) ++ [.int .i64 (x.1 : Int)])) (hgrow : (W.alloc tmp).grownBy w1 v.ownBlock) :
    PlS w s g cap cs ct zs (pre ++ [x]) v' ((w1.setCell ⟨s + 1, 0, none⟩ v').setCell ⟨g, x.1, none⟩ (.int .i64 1)) ∧ KeepsOthers W ((w1.setCell ⟨s + 1, 0, none⟩ v').setCell ⟨g, x.1, none⟩ (.int .i64 1)) ∧
      Below w.heap.size W ((w1.setCell ⟨s + 1, 0, none⟩ v').setCell ⟨g, x.1, none⟩ (.int .i64 1)) := by
  obtain ⟨p1, p2, p3, p4, p5, p6, p7, p8, p9, p10, p11, p12⟩ := h.appended hs hg hgw hown hgrow
  have hx := x.2.2
  have hst := p5.stored x.1 hx 1 (by omega)
  rw [Nat.zero_add, ← ones_snoc] at hst
  have hk : ∀ {B : Nat} {t : TypeId} {u : Value}, Boxed (w1.setCell ⟨s + 1, 0, none⟩ v') B t u → B ≠ g → Boxed ((w1.setCell ⟨s + 1, 0, none⟩ v').setCell ⟨g, x.1, none⟩ (.int .i64 1)) B t u := fun hb hne => (Below.heap_setCell _ _ _ _ hne).trans hb
  have hB : Below w.heap.size W ((w1.setCell ⟨s + 1, 0, none⟩ v').setCell ⟨g, x.1, none⟩ (.int .i64 1)) := (p11.mono (by omega)).setCell (p := ⟨g, x.1, none⟩) (by show w.heap.size ≤ g; omega) _
  refine ⟨⟨hk p2 (by omega), ?_, hk p4 (by omega), hst.1, hk p6 (by omega), hk p7 (by omega), hk p8 (by omega), hk p9 (by omega), hk p10 (by omega), h.bel.trans hB⟩, p12.trans (KeepsOthers.setCell _ _ _), hB⟩
  rcases p3.2 with e | ⟨gg, cc, cu, hv, e1, e2, e3⟩
  · exact ⟨p3.1, .inl e⟩
  · exact ⟨p3.1, .inr ⟨gg, cc, cu, hv, e1, (Below.heap_setCell _ _ _ _ (by show gg ≠ g; omega)).trans e2, e3⟩⟩

/-- what a round keeps -/
theorem PlS.kp {w W W' : World} {s g cap : Nat} {cs ct : Value} {zs : List Int} {pre pre' : List (Blk zs.length)} {v v' : Value} (h : PlS w s g cap cs ct zs pre v W) (h' : PlS w s g cap cs ct zs pre' v' W') (hb : Below w.heap.size W W') : KpF w.heap.size (s + 1 + 1) (s + 1 + 1 + 1) W W' :=
  ⟨hb, h'.bs.trans h.bs.symm, h'.bt.trans h.bt.symm⟩

/-- what lies when PlanTable's loop is left: the answers' boxes -/
def PlE (w : World) (s : Nat) (zs : List Int) (pre : List (Blk zs.length)) (W : World) : Prop :=
  ∃ p q, Boxed W w.heap.size 23 p ∧ Boxed W (w.heap.size + 1) 26 q ∧ Boxed W (w.heap.size + 1 + 1) 2 (.int .i64 0) ∧ W.ownsRow s 2 1 p pre.length (pre.map fun x => Value.int .i64 (x.1 : Int)) ∧ W.ownsRow s 58 3 q (rnO zs pre).length (flatR (rnO zs pre)) ∧ Below w.heap.size w W

theorem row_setCell {W : World} {s : Nat} {e : TypeId} {size : Nat} {v : Value} {k : Nat} {xs : List Value} (h : W.ownsRow s e size v k xs) {p : Addr} (hp : p.block < s) (u : Value) : (W.setCell p u).ownsRow s e size v k xs := by
  rcases h.2 with e | ⟨gg, cc, cu, hv, e1, e2, e3⟩
  · exact ⟨h.1, .inl e⟩
  · exact ⟨h.1, .inr ⟨gg, cc, cu, hv, e1, (Below.heap_setCell _ _ _ _ (by omega)).trans e2, e3⟩⟩
theorem row_base {W : World} {s s' : Nat} {e : TypeId} {size : Nat} {v : Value} {k : Nat} {xs : List Value} (h : W.ownsRow s e size v k xs) (hs : s' ≤ s) : W.ownsRow s' e size v k xs := by
  rcases h.2 with e | ⟨gg, cc, cu, hv, e1, e3⟩
  · exact ⟨h.1, .inl e⟩
  · exact ⟨h.1, .inr ⟨gg, cc, cu, hv, by omega, e3⟩⟩

/-- 'return plan, runs, OK' -/
theorem PlS.ends {w W : World} {s g cap base : Nat} {cs ct : Value} {zs : List Int} {pre : List (Blk zs.length)} {v q : Value} (h : PlS w s g cap cs ct zs pre v W) (hs : w.heap.size + 3 < s) (hq : RRow base W q (rnO zs pre)) (hb : s ≤ base) :
    PlE w s zs pre (((W.setCell ⟨w.heap.size, 0, none⟩ v).setCell ⟨w.heap.size + 1, 0, none⟩ q).setCell ⟨w.heap.size + 1 + 1, 0, none⟩ (.int .i64 0)) := by
  have r1 : Boxed (W.setCell ⟨w.heap.size, 0, none⟩ v) (w.heap.size + 1) 26 (.slice none 0 0) := h.r1.other (by omega) _
  have r2 : Boxed ((W.setCell ⟨w.heap.size, 0, none⟩ v).setCell ⟨w.heap.size + 1, 0, none⟩ q) (w.heap.size + 1 + 1) 2 (.int .i64 0) := (h.r2.other (by omega) _).other (by omega) _
  refine ⟨v, q, ((h.r0.set v).other (by omega) _).other (by omega) _, (r1.set q).other (by omega) _, r2.set _, ?_, ?_, ?_⟩
  · exact row_setCell (row_setCell (row_setCell h.row (by show w.heap.size < s; omega) _) (by show w.heap.size + 1 < s; omega) _) (by show w.heap.size + 1 + 1 < s; omega) _
  · exact row_setCell (row_setCell (row_setCell (row_base hq hb) (by show w.heap.size < s; omega) _) (by show w.heap.size + 1 < s; omega) _) (by show w.heap.size + 1 + 1 < s; omega) _
  · exact ((h.bel.setCell (p := ⟨w.heap.size, 0, none⟩) (Nat.le_refl _) _).setCell (p := ⟨w.heap.size + 1, 0, none⟩) (by show w.heap.size ≤ w.heap.size + 1; omega) _).setCell (p := ⟨w.heap.size + 1 + 1, 0, none⟩) (by show w.heap.size ≤ w.heap.size + 1 + 1; omega) _

theorem plE_own {w : World} {s : Nat} {zs : List Int} (hs : w.heap.size ≤ s) : OwnFrom s (fun (pre : List (Blk zs.length)) W => PlE w s zs pre W) := by
  rintro pre X Y row ⟨p, q, h0, h1, h2, h3, h4, h5⟩ hg hr
  have hr' : ∀ r, row = some r → ∃ o : Obj, X.heap[r]? = some o ∧ o.isCells = false := fun r e => (hr r e).2
  obtain ⟨v', e1, e2, e3⟩ := holdsRow_own (β := Unit) s w.heap.size 23 2 1 (fun _ => pre.length) (fun _ => pre.map fun x => Value.int .i64 (x.1 : Int)) (fun _ u => u = p) () X Y row ⟨p, h0, h3, rfl⟩ hg hr'
  subst e3
  obtain ⟨v2, f1, f2, f3⟩ := holdsRow_own (β := Unit) s (w.heap.size + 1) 26 58 3 (fun _ => (rnO zs pre).length) (fun _ => flatR (rnO zs pre)) (fun _ u => u = q) () X Y row ⟨q, h1, h4, rfl⟩ hg hr'
  subst f3
  exact ⟨v', v2, e1, f1, boxed_own (β := Unit) _ _ (fun _ => _) () X Y row h2 hg hr', e2, f2, ownFrom_below (β := Unit) (Nat.le_refl _) hs () X Y row h5 hg hr⟩

theorem good_snoc {n : Nat} {zs : List Int} {pre : List (Blk n)} {x : Blk n} (h : ∀ j, j < pre.length → good zs (pre.take (j + 1)) = false) (hx : good zs (pre ++ [x]) = false) : ∀ j, j < (pre ++ [x]).length → good zs ((pre ++ [x]).take (j + 1)) = false := fun j hj => by
  by_cases e : j < pre.length
  · rw [List.take_append_of_le_length (by omega)]; exact h j e
  · rw [List.take_of_length_le (by simp at hj ⊢; omega)]; exact hx
end Go.Proofs.YtamblkibmlfklabDoor

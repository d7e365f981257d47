import Derived.Test.YtbadedhliplkeaaDc1
import Derived.Deep.DeepCutAuto
namespace Go.Proofs.Ytbadedhliplkeaa
open Go.RowKit
set_option linter.unusedVariables false

/-- a box is stored anew -/
theorem Box3.stored {w : World} {b : Nat} {x0 x1 x2 : Value} {t : TypeId} (h : Box3 w b x0 x1 x2 t) (x y z : Value) :
    Box3 (((w.setCell ⟨b, 0, none⟩ x).setCell ⟨b, 1, none⟩ y).setCell ⟨b, 2, none⟩ z) b x y z t ∧ Upd b (b + 1) w (((w.setCell ⟨b, 0, none⟩ x).setCell ⟨b, 1, none⟩ y).setCell ⟨b, 2, none⟩ z) := by
  have e0 := heap_setCell_same w b 0 _ t x h
  have e1 := heap_setCell_same _ b 1 _ t y e0
  have e2 := heap_setCell_same _ b 2 _ t z e1
  refine ⟨by simpa [Box3] using e2, ?_⟩
  exact (((Upd.refl b (b + 1) w).setCell (p := ⟨b, 0, none⟩) (Nat.le_refl _) (Nat.lt_succ_self _) x).setCell (p := ⟨b, 1, none⟩) (Nat.le_refl _) (Nat.lt_succ_self _) y).setCell (p := ⟨b, 2, none⟩) (Nat.le_refl _) (Nat.lt_succ_self _) z

/-- a device lies in a box that is new since W, and so does all of it -/
structure EAt (W wx : World) (b : Nat) (B : Int) (xa : Option Addr) (xc : Nat) (ya : Option Addr) (yc : Nat) (zs : List Int) (ps : List (Int × List Int)) : Prop where
  new : W.heap.size ≤ b
  box : Box3 wx b (.int .i64 B) (.slice xa zs.length xc) (.slice ya ps.length yc) 25
  own : ∃ lo hi, W.heap.size ≤ lo ∧ DOwnX lo hi wx (.agg #[.int .i64 B, .slice xa zs.length xc, .slice ya ps.length yc]) B zs ps
  bel : Below W.heap.size W wx

theorem EAt.read {W wx : World} {b : Nat} {B : Int} {xa : Option Addr} {xc : Nat} {ya : Option Addr} {yc : Nat} {zs : List Int} {ps : List (Int × List Int)} (h : EAt W wx b B xa xc ya yc zs ps) : DRead wx (.agg #[.int .i64 B, .slice xa zs.length xc, .slice ya ps.length yc]) B zs ps := by
  obtain ⟨_, _, _, h1⟩ := h.own
  exact h1.read

theorem EAt.below {W wx w' : World} {b : Nat} {B : Int} {xa : Option Addr} {xc : Nat} {ya : Option Addr} {yc : Nat} {zs : List Int} {ps : List (Int × List Int)} (h : EAt W wx b B xa xc ya yc zs ps) (k : Below wx.heap.size wx w') : EAt W w' b B xa xc ya yc zs ps := by
  obtain ⟨lo, hi, h0, h1⟩ := h.own
  exact ⟨h.new, h.box.below k, ⟨lo, hi, h0, h1.below k⟩, h.bel.trans (k.mono h.bel.size)⟩

/-- an older box is stored anew -/
theorem EAt.upd {W V wx w' : World} {b lo' hi' : Nat} {B : Int} {xa : Option Addr} {xc : Nat} {ya : Option Addr} {yc : Nat} {zs : List Int} {ps : List (Int × List Int)} (h : EAt W wx b B xa xc ya yc zs ps) (k : Upd lo' hi' wx w') (hh : hi' ≤ W.heap.size) (hb : Below V.heap.size V w') (hV : V.heap.size ≤ W.heap.size) : EAt V w' b B xa xc ya yc zs ps := by
  obtain ⟨lo, hi, h0, h1⟩ := h.own
  have hn := h.new
  exact ⟨by omega, h.box.upd k (.inr (by omega)), ⟨lo, hi, by omega, h1.upd k (.inr (by omega))⟩, hb⟩

theorem EAt.stored {W w2 : World} {b lo hi : Nat} {B : Int} {xa : Option Addr} {xc : Nat} {ya : Option Addr} {yc : Nat} {zs : List Int} {ps : List (Int × List Int)} {x0 x1 x2 : Value} (hO : DOwnX lo hi w2 (.agg #[.int .i64 B, .slice xa zs.length xc, .slice ya ps.length yc]) B zs ps) (hb : Box3 w2 b x0 x1 x2 25) (hl : b < lo) (hn : W.heap.size ≤ b) (hB : Below W.heap.size W w2) :
    EAt W (((w2.setCell ⟨b, 0, none⟩ (.int .i64 B)).setCell ⟨b, 1, none⟩ (.slice xa zs.length xc)).setCell ⟨b, 2, none⟩ (.slice ya ps.length yc)) b B xa xc ya yc zs ps := by
  obtain ⟨h1, h2⟩ := hb.stored (.int .i64 B) (.slice xa zs.length xc) (.slice ya ps.length yc)
  exact ⟨hn, h1, ⟨lo, hi, by omega, hO.upd h2 (.inr (by omega))⟩, hB.trans (h2.below hn hB.size)⟩

theorem EAt.made {W w2 : World} {lo hi : Nat} {B : Int} {xa : Option Addr} {xc : Nat} {ya : Option Addr} {yc : Nat} {zs : List Int} {ps : List (Int × List Int)} (hO : DOwnX lo hi w2 (.agg #[.int .i64 B, .slice xa zs.length xc, .slice ya ps.length yc]) B zs ps) (hl : W.heap.size ≤ lo) (hB : Below W.heap.size W w2) :
    EAt W (w2.alloc (.cells #[.int .i64 B, .slice xa zs.length xc, .slice ya ps.length yc] 25)) w2.heap.size B xa xc ya yc zs ps :=
  ⟨hB.size, Box3.made _ _ _ _ _ _ rfl, ⟨lo, hi, hl, hO.below (belowA _ _)⟩, hB.trans ((belowA _ _).mono hB.size)⟩

/-- a device without a cache -/
theorem DOwnX.bare {lo hi : Nat} {w : World} {B : Int} {xa : Option Addr} {xc : Nat} {zs : List Int} (h : Own8 lo hi w (.slice xa zs.length xc) zs) : DOwnX lo hi w (.agg #[.int .i64 B, .slice xa zs.length xc, .slice Option.none ([] : List (Int × List Int)).length 0]) B zs [] :=
  ⟨_, _, _, _, lo, hi, rfl, Nat.le_refl _, Nat.le_refl _, h, POwnS.empty _ _ _ _⟩

/-- what lay in a row that was appended to lies there still -/
theorem old_kept {w w' : World} {g n cap : Nat} {xs news : List Value} {v' : Value} {ty : TypeId} {a : Addr} {c : Nat} (hown : w.ownsRow 0 38 2 (.slice (some ⟨g, 0, none⟩) n cap) n xs)
    (hl : news.length = 1 * 2) (hnews : ∀ j u, news[j]? = some u → w.cell? (a.add j) = some u) (h1 : ∀ u ∈ news, u.oneCell' = true) (hn : n < 1048576)
    (hr : (Builtin.append_ #[23, 23] ty #[.slice (some ⟨g, 0, none⟩) n cap, .slice (some a) 1 c]).run Try.prog w = .ok v' w')
    (h2 : w'.ownsRow 0 38 2 v' (n + 1) (xs ++ news)) (hat : v'.ownBlock = some g ∨ v'.ownBlock = some w.heap.size) (j : Nat) (hj : j < n * 2) : w'.cell? ⟨g, j, none⟩ = w.cell? ⟨g, j, none⟩ := by
  have hgl := (hown.lt g rfl).2
  obtain ⟨i0, hi, hzz⟩ := Option.map_eq_some_iff.1 infoPend
  simp only [Prod.mk.injEq] at hzz
  obtain ⟨hz0, hz1, hz2⟩ := hzz
  have hin : w'.heap[g]? = w.heap[g]? → w'.cell? ⟨g, j, none⟩ = w.cell? ⟨g, j, none⟩ := fun e => World.cell?_of_block (a := ⟨g, j, none⟩) e
  have hsame : v'.ownBlock = some g → w'.cell? ⟨g, j, none⟩ = w.cell? ⟨g, j, none⟩ := fun e => by
    rcases h2.2 with ⟨hv, _⟩ | ⟨g', cap', cur', hv, _⟩
    · rw [hv] at e; simp [Value.ownBlock] at e
    · have : g' = g := by rw [hv] at e; simpa [Value.ownBlock] using e
      subst this
      subst hv
      rw [h2.cellAt j (by omega), hown.cellAt j hj, List.getElem?_append_left (by rw [hown.1]; exact hj)]
  rcases hat with e | e
  · exact hsame e
  · rcases hown.2 with ⟨h0, _⟩ | ⟨g', cap', cur, hv, hb, hg, hnc, hcm, hcs, ht⟩
    · cases h0
    · simp only [Value.slice.injEq, Option.some.injEq, Addr.mk.injEq, true_and, and_true] at hv
      obtain ⟨rfl, rfl⟩ := hv
      by_cases hroom : n + 1 ≤ cap
      · have hr2 := run_append_room (P := Try.prog) w 23 ty 38 i0 Try.underlying23 hi g n cap cur hg a 1 c news (by rw [hl, hz1]) hnews h1 hroom (by rw [hl, hz1, hcs]; omega)
        rw [hr] at hr2
        injection hr2 with e1 e2
        rw [e1] at e
        simp [Value.ownBlock] at e
        omega
      · have hr2 := run_append_grow (P := Try.prog) w 23 ty 38 i0 _ Try.underlying23 hi hz0 ⟨g, 0, none⟩ n cap xs (by rw [hown.1, hz1]) (hown.cells (g := g) rfl) a 1 c news (by rw [hl, hz1]) hnews (by omega) (by omega) (growslice_fits (by omega) (by rw [hz2]; omega))
        rw [hr] at hr2
        injection hr2 with e1 e2
        rw [e2]
        exact World.cell?_alloc_past _ _ _ hgl

/-- 'append(cache, Pending{q, data})': the new list reads as one more, the old one as before -/
theorem wpList_appendQ {ops : Array Oper} {rest : List Oper} {o : Oper} {a : Act} {Q : Exit → Act → World → Prop} (hgd : o.guard = none) (s x : Operand)
    (ho : o.op = .call { callee := .builtin .append, args := #[s, x], argTypes := #[23, 23] })
    {S : Nat → Prop} {wL w1 : World} {ca : Option Addr} {cc : Nat} {ps : List (Int × List Int)} (q : Int) (ds : List Int) {da : Option Addr} {dc : Nat} (hR : PRow S w1 (.slice ca ps.length cc) ps) (hS : ∀ k, S k → wL.heap.size ≤ k)
    (hw : Bts wL (.slice da ds.length dc) ds) (hb : Below wL.heap.size wL w1)
    (hs : a.eval s = .slice ca ps.length cc) (hx : a.eval x = .slice (some ⟨w1.heap.size, 0, none⟩) 1 1) (hlen : ps.length < 1048576)
    (h : ∀ va vc w', PRead w' (.slice va (ps.length + 1) vc) (ps ++ [(q, ds)]) → PRead w' (.slice ca ps.length cc) ps → Frm S w1 w' → wpList Try.prog ops Q rest (a.put o.dst (.slice va (ps.length + 1) vc)) w') :
    wpList Try.prog ops Q (o :: rest) a (w1.alloc (.cells #[.int .i64 q, .slice da ds.length dc] 38)) := by
  refine wpList_plain hgd fun K hK => ?_
  obtain ⟨i0, hi, hzz⟩ := Option.map_eq_some_iff.1 infoPend
  simp only [Prod.mk.injEq] at hzz
  obtain ⟨hz0, hz1, hz2⟩ := hzz
  obtain ⟨W, hW⟩ : ∃ W, W = w1.alloc (.cells #[.int .i64 q, .slice da ds.length dc] 38) := ⟨_, rfl⟩
  have hA : Below w1.heap.size w1 W := by rw [hW]; exact belowA _ _
  have hWs : W.heap.size = w1.heap.size + 1 := by rw [hW]; simp
  have hnews : ∀ j u, [Value.int .i64 q, .slice da ds.length dc][j]? = some u → W.cell? ((⟨w1.heap.size, 0, none⟩ : Addr).add j) = some u := fun j u hj => by
    rw [hW]
    match j, hj with
    | 0, hj => simp at hj; subst hj; simp [Addr.add, World.cell?_alloc_at]
    | 1, hj => simp at hj; subst hj; simp [Addr.add, World.cell?_alloc_at]
  have hone : ∀ u ∈ [Value.int .i64 q, .slice da ds.length dc], u.oneCell' = true := fun u hu => by
    simp at hu
    rcases hu with rfl | rfl <;> rfl
  rw [← hW]
  have hP := hR.below hA
  obtain ⟨xs, g, k1, k2, k3, k4⟩ := hP
  obtain ⟨v', w', hr, h1, h2, _, h4⟩ := run_append_own_at (P := Try.prog) W 0 23 o.type 38 i0 _ 2 32 Try.underlying23 hi hz0 hz1 hz2 rfl (by decide) (.slice ca ps.length cc) ps.length xs k1 ⟨w1.heap.size, 0, none⟩ 1 1 [.int .i64 q, .slice da ds.length dc] rfl hnews hone (by unfold maxLen; omega) (by omega) (Nat.zero_le _)
  unfold Oper.wp execOp
  simp only [ho, resolve, invoke, builtin, Sem.run_bind, Sem.run_pure, Result.andThen_ok, List.map_toArray, List.map_cons, List.map_nil, hs, hx, hr]
  have hne : ∀ k, (Value.slice ca ps.length cc).ownBlock = some k → wL.heap.size ≤ k := fun k e => hS k (k2 k e)
  have hFrm : Frm S w1 w' := ⟨h2.os.trans hA.os, h2.tape.trans hA.tape, h2.output.trans hA.output, Nat.le_trans hA.size h2.size, fun k hk hn => (h2.block k (by omega) (fun e => hn (k2 k e.symm))).trans (hA.block k hk)⟩
  have hdat : Bts w' (.slice da ds.length dc) ds := hw.kept fun b o hb' => by
    have e1 : w'.heap[b]? = w1.heap[b]? := hFrm.block b (by have := hb.size; omega) (fun e => by have := hS b e; omega)
    exact (World.cell?_of_block (a := ⟨b, o, none⟩) e1).trans (hb.cell (p := ⟨b, o, none⟩) hb')
  have hel : ∀ i, i < ps.length → ∃ da dc, xs[i * 2]? = some (.int .i64 (ps.getD i (0, [])).1) ∧ xs[i * 2 + 1]? = some (.slice da (ps.getD i (0, [])).2.length dc) ∧ Bts w' (.slice da (ps.getD i (0, [])).2.length dc) (ps.getD i (0, [])).2 := fun i hi => by
    obtain ⟨g1, g2, g3, g4, da', dc', g5, g6⟩ := k3 i hi
    exact ⟨da', dc', g4, g5, (g6.kept h2.size fun x x1 x2 x3 => h2.block x x3 (by have e : x = g i := (by omega); rw [e]; exact g3)).bts⟩
  have hxl : xs.length = ps.length * 2 := k1.1
  have hold : PRead w' (.slice ca ps.length cc) ps := by
    refine ⟨ca, cc, rfl, fun hp => ?_⟩
    rcases k1.2 with ⟨e, e0⟩ | ⟨gb, cap, cur, hv, e1, e2, e3⟩
    · omega
    · simp only [Value.slice.injEq, true_and] at hv
      obtain ⟨rfl, rfl⟩ := hv
      refine ⟨gb, 0, rfl, fun i hi => ?_⟩
      obtain ⟨da', dc', x1, x2, x3⟩ := hel i hi
      have hk : ∀ j, j < ps.length * 2 → w'.cell? ⟨gb, j, none⟩ = W.cell? ⟨gb, j, none⟩ := fun j hj => old_kept k1 rfl hnews hone hlen hr h1 h4 j hj
      refine ⟨da', dc', ?_, ?_, x3⟩
      · rw [Nat.zero_add, hk _ (by omega), k1.cellAt _ (by omega)]; exact x1
      · rw [Nat.zero_add, hk _ (by omega), k1.cellAt _ (by omega)]; exact x2
  rcases h1.2 with ⟨e, e0⟩ | ⟨gb, cap, cur, hv, e1, e2, e3⟩
  · omega
  · subst hv
    refine hK _ _ (h (some ⟨gb, 0, none⟩) cap _ ⟨some ⟨gb, 0, none⟩, cap, by simp, fun _ => ⟨gb, 0, rfl, fun i hi => ?_⟩⟩ hold hFrm)
    by_cases he : i = ps.length
    · subst he
      rw [getD_snoc]
      refine ⟨da, dc, ?_, ?_, hdat⟩
      · rw [Nat.zero_add, h1.cellAt _ (by omega), List.getElem?_append_right (by omega), hxl]; simp
      · rw [Nat.zero_add, h1.cellAt _ (by omega), List.getElem?_append_right (by omega), hxl, show ps.length * 2 + 1 - ps.length * 2 = 1 by omega]; rfl
    · have hi' : i < ps.length := by simp at hi; omega
      rw [getD_snoc_lt _ _ _ hi']
      obtain ⟨da', dc', x1, x2, x3⟩ := hel i hi'
      refine ⟨da', dc', ?_, ?_, x3⟩
      · rw [Nat.zero_add, h1.cellAt _ (by omega), List.getElem?_append_left (by omega)]; exact x1
      · rw [Nat.zero_add, h1.cellAt _ (by omega), List.getElem?_append_left (by omega)]; exact x2

theorem wC_ne1 (B : Int) (n : Nat) (q : Int) (m : Nat) : (wC B n q m == 1) = false := by
  have : wC B n q m ≠ 1 := by
    unfold wC
    repeat' split
    all_goals decide
  simpa using this

theorem wP_cases (B : Int) (ps : List (Int × List Int)) (q : Int) (ds : List Int) : (wC B ps.length q ds.length = 0 ∧ wP B ps q ds = ps ++ [(q, ds)]) ∨ (wC B ps.length q ds.length ≠ 0 ∧ wP B ps q ds = ps) := by
  unfold wP
  by_cases h : wC B ps.length q ds.length = 0
  · exact .inl ⟨h, if_pos h⟩
  · exact .inr ⟨h, if_neg h⟩

theorem DOwnX.kept {lo hi : Nat} {w w' : World} {v : Value} {B : Int} {zs : List Int} {ps : List (Int × List Int)} (h : DOwnX lo hi w v B zs ps) (hs : w.heap.size ≤ w'.heap.size) (k : ∀ b, lo ≤ b → b < w.heap.size → w'.heap[b]? = w.heap[b]?) : DOwnX lo hi w' v B zs ps := by
  obtain ⟨da, dc, ca, cc, l1, h1, e, g1, g2, g3, g4⟩ := h
  exact ⟨da, dc, ca, cc, l1, h1, e, g1, g2, g3.kept hs (fun b b1 _ b3 => k b (by omega) b3), g4.kept hs (fun b b1 b2 => k b b1.1 b2)⟩

theorem EAt.keptF {W V wx w' : World} {b : Nat} {B : Int} {xa : Option Addr} {xc : Nat} {ya : Option Addr} {yc : Nat} {zs : List Int} {ps : List (Int × List Int)} (h : EAt W wx b B xa xc ya yc zs ps) (hs : wx.heap.size ≤ w'.heap.size) (k : ∀ b, W.heap.size ≤ b → b < wx.heap.size → w'.heap[b]? = wx.heap[b]?) (hb : Below V.heap.size V w') (hV : V.heap.size ≤ W.heap.size) : EAt V w' b B xa xc ya yc zs ps := by
  obtain ⟨lo, hi, h0, h1⟩ := h.own
  have hn := h.new
  exact ⟨by omega, (k b hn h.box.lt).trans h.box, ⟨lo, hi, by omega, h1.kept hs (fun q q1 q2 => k q (by omega) q2)⟩, hb⟩

theorem Frm.same (S : Nat → Prop) (w : World) : Frm S w w := ⟨rfl, rfl, rfl, Nat.le_refl _, fun _ _ _ => rfl⟩

end Go.Proofs.Ytbadedhliplkeaa

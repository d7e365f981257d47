import Derived.Test.YtbadedhliplkeaaPX
namespace Go.Proofs.Ytbadedhliplkeaa
open Go.RowKit

/-- v is a row of the call's own that reads as ps: it may be appended to; spine and bytes lie in blocks of S, each in its own -/
def PRow (S : Nat → Prop) (w : World) (v : Value) (ps : List (Int × List Int)) : Prop :=
  ∃ (xs : List Value) (g : Nat → Nat), w.ownsRow 0 38 2 v ps.length xs ∧ (∀ b, v.ownBlock = some b → S b) ∧
    (∀ i, i < ps.length → S (g i) ∧ g i < w.heap.size ∧ some (g i) ≠ v.ownBlock ∧ xs[i * 2]? = some (.int .i64 (ps.getD i (0, [])).1) ∧ ∃ da dc, xs[i * 2 + 1]? = some (.slice da (ps.getD i (0, [])).2.length dc) ∧ Own8 (g i) (g i + 1) w (.slice da (ps.getD i (0, [])).2.length dc) (ps.getD i (0, [])).2) ∧
    (∀ i j, i < ps.length → j < ps.length → g i = g j → i = j)

theorem getD_snoc (ps : List (Int × List Int)) (p : Int × List Int) : (ps ++ [p]).getD ps.length (0, []) = p := by simp
theorem getD_snoc_lt (ps : List (Int × List Int)) (p : Int × List Int) (i : Nat) (h : i < ps.length) : (ps ++ [p]).getD i (0, []) = ps.getD i (0, []) := by simp [List.getElem?_append_left h]

theorem PRow.nil (S : Nat → Prop) (w : World) : PRow S w (.slice none 0 0) [] :=
  ⟨[], fun _ => 0, World.ownsRow_nil _ _ _ _, fun b h => by simp [Value.ownBlock] at h, fun i hi => by simp at hi, fun i _ hi => by simp at hi⟩

theorem PRow.form {S : Nat → Prop} {w : World} {v : Value} {ps : List (Int × List Int)} (h : PRow S w v ps) : ∃ a cap, v = .slice a ps.length cap := by
  obtain ⟨xs, g, h1, _⟩ := h
  rcases h1.2 with ⟨hv, hn⟩ | ⟨g, cap, cur, hv, _⟩
  · exact ⟨none, 0, by rw [hv, hn]⟩
  · exact ⟨_, _, hv⟩

theorem PRow.kept {S : Nat → Prop} {w w' : World} {v : Value} {ps : List (Int × List Int)} (h : PRow S w v ps) (hs : w.heap.size ≤ w'.heap.size) (k : ∀ b, S b → b < w.heap.size → w'.heap[b]? = w.heap[b]?) : PRow S w' v ps := by
  obtain ⟨xs, g, h1, h2, h3, h4⟩ := h
  refine ⟨xs, g, ⟨h1.1, ?_⟩, h2, fun i hi => ?_, h4⟩
  · have hlt := h1.lt
    rcases h1.2 with e | ⟨g, cap, cur, hv, e1, e2, e3⟩
    · exact .inl e
    · subst hv
      exact .inr ⟨g, cap, cur, rfl, e1, (k g (h2 g rfl) (hlt g rfl).2).trans e2, e3⟩
  · obtain ⟨g1, g2, g3, g4, da, dc, g5, g6⟩ := h3 i hi
    exact ⟨g1, by omega, g3, g4, da, dc, g5, g6.kept hs fun q q1 q2 q3 => by
      obtain rfl : q = g i := by omega
      exact k _ g1 q3⟩

theorem PRow.below {S : Nat → Prop} {w w' : World} {v : Value} {ps : List (Int × List Int)} (h : PRow S w v ps) (k : Below w.heap.size w w') : PRow S w' v ps := h.kept k.size fun b _ hb => k.block b hb

theorem PRow.own {S : Nat → Prop} {w : World} {v : Value} {ps : List (Int × List Int)} (h : PRow S w v ps) : POwnS S w v ps := by
  obtain ⟨a, cap, hf⟩ := h.form
  obtain ⟨xs, g, h1, h2, h3, h4⟩ := h
  refine ⟨a, cap, hf, fun hp => ?_⟩
  have hlt := h1.lt
  rcases h1.2 with ⟨_, e⟩ | ⟨b, cap, cur, hv, e1, e2, e3⟩
  · omega
  · subst hv
    have hca := h1.cellAt
    have hfr := h1.frozenAt
    simp only [Value.slice.injEq] at hf
    obtain ⟨rfl, _, rfl⟩ := hf
    refine ⟨b, 0, rfl, h2 b rfl, (hlt b rfl).2, g, fun i hi => ?_, h4⟩
    obtain ⟨g1, g2, g3, g4, da, dc, g5, g6⟩ := h3 i hi
    refine ⟨g1, fun e => g3 (by simp [Value.ownBlock, e]), g2, da, dc, ?_, ?_, ?_, g6⟩
    · rw [Nat.zero_add, hca (i * 2) (by omega)]; exact g4
    · rw [Nat.zero_add, hca (i * 2 + 1) (by omega)]; exact g5
    · rw [Nat.zero_add]; exact hfr (i * 2)

/-- one more -/
theorem PRow.snoc {S : Nat → Prop} {w0 w1 w' : World} {v v' : Value} {ps : List (Int × List Int)} (q : Int) (ds : List Int) {da : Option Addr} {dc gn : Nat} (xs : List Value) (g : Nat → Nat)
    (h3 : ∀ i, i < ps.length → S (g i) ∧ g i < w0.heap.size ∧ some (g i) ≠ v.ownBlock ∧ xs[i * 2]? = some (.int .i64 (ps.getD i (0, [])).1) ∧ ∃ da dc, xs[i * 2 + 1]? = some (.slice da (ps.getD i (0, [])).2.length dc) ∧ Own8 (g i) (g i + 1) w1 (.slice da (ps.getD i (0, [])).2.length dc) (ps.getD i (0, [])).2)
    (h4 : ∀ i j, i < ps.length → j < ps.length → g i = g j → i = j) (hx : xs.length = ps.length * 2) (hv : ∀ b, v.ownBlock = some b → S b ∧ b < w0.heap.size) (hsz : w0.heap.size ≤ w1.heap.size)
    (hgn : w0.heap.size ≤ gn) (hgn2 : gn < w1.heap.size) (ho : Own8 gn (gn + 1) w1 (.slice da ds.length dc) ds) (hS : ∀ k, w0.heap.size ≤ k → S k)
    (hown : w'.ownsRow 0 38 2 v' (ps.length + 1) (xs ++ [.int .i64 q, .slice da ds.length dc])) (hgr : w1.grownBy w' v.ownBlock) (hat : v'.ownBlock = v.ownBlock ∨ ∃ k, v'.ownBlock = some k ∧ w1.heap.size ≤ k) :
    PRow S w' v' (ps ++ [(q, ds)]) := by
  have hne : ∀ k, w0.heap.size ≤ k → some k ≠ v.ownBlock := fun k hk e => by have := (hv k e.symm).2; omega
  refine ⟨_, fun i => if i = ps.length then gn else g i, by simpa using hown, fun b hb => ?_, fun i hi => ?_, fun i j hi hj he => ?_⟩
  · rcases hat with e | ⟨k, e, hk⟩
    · exact (hv b (e ▸ hb)).1
    · rw [e] at hb; cases hb; exact hS _ (by omega)
  · by_cases he : i = ps.length
    · subst he
      simp only [if_true, getD_snoc]
      refine ⟨hS _ hgn, by have := hgr.size; omega, fun e => ?_, ?_, da, dc, ?_, ho.kept hgr.size fun x x1 x2 x3 => hgr.block x x3 (hne x (by omega))⟩
      · rcases hat with e1 | ⟨k, e1, hk⟩
        · rw [e1] at e; exact hne _ hgn e
        · rw [e1] at e; cases e; omega
      · rw [List.getElem?_append_right (by omega), hx]; simp
      · rw [List.getElem?_append_right (by omega), hx, show ps.length * 2 + 1 - ps.length * 2 = 1 by omega]; rfl
    · have hi' : i < ps.length := by simp at hi; omega
      obtain ⟨g1, g2, g3, g4, da', dc', g5, g6⟩ := h3 i hi'
      simp only [if_neg he, getD_snoc_lt _ _ _ hi']
      refine ⟨g1, by have := hgr.size; omega, fun e => ?_, ?_, da', dc', ?_, g6.kept hgr.size fun x x1 x2 x3 => hgr.block x x3 ?_⟩
      · rcases hat with e1 | ⟨k, e1, hk⟩
        · rw [e1] at e; exact g3 e
        · rw [e1] at e; cases e; omega
      · rw [List.getElem?_append_left (by omega)]; exact g4
      · rw [List.getElem?_append_left (by omega)]; exact g5
      · obtain rfl : x = g i := by omega
        exact g3
  · simp only [List.length_append, List.length_cons, List.length_nil] at hi hj he
    by_cases h1 : i = ps.length
    · by_cases h2 : j = ps.length
      · omega
      · rw [if_pos h1, if_neg h2] at he
        have := (h3 j (by omega)).2.1
        omega
    · by_cases h2 : j = ps.length
      · rw [if_neg h1, if_pos h2] at he
        have := (h3 i (by omega)).2.1
        omega
      · rw [if_neg h1, if_neg h2] at he
        exact h4 i j (by omega) (by omega) he

/-- 'append(out, Pending{q, bytes})', at the operation -/
theorem wp_appendR {o : Oper} {a : Act} {K : Act → World → Prop} {Q : Exit → Act → World → Prop} (s x : Operand)
    (ho : o.op = .call { callee := .builtin .append, args := #[s, x], argTypes := #[23, 23] })
    {S : Nat → Prop} {w0 w1 : World} {v : Value} {ps : List (Int × List Int)} (q : Int) (ds : List Int) {m : Nat} (hm : ds.length = m) {da : Option Addr} {dc gn : Nat} (hR : PRow S w0 v ps) (hb : Below w0.heap.size w0 w1)
    (hgn : w0.heap.size ≤ gn) (hgn2 : gn < w1.heap.size) (hw : Own8 gn (gn + 1) w1 (.slice da m dc) ds) (hS : ∀ k, w0.heap.size ≤ k → S k)
    (hs : a.eval s = v) (hx : ∃ g, a.eval x = .slice (some ⟨g, 0, none⟩) 1 1 ∧ g = w1.heap.size) (hlen : ps.length < 1048576)
    (h : ∀ v' w', PRow S w' v' (ps ++ [(q, ds)]) → Frm S w1 w' → K (a.put o.dst v') w') :
    o.wp Try.prog a (w1.alloc (.cells #[.int .i64 q, .slice da m dc] 38)) K Q := by
  subst hm
  obtain ⟨i0, hi, hzz⟩ := Option.map_eq_some_iff.1 infoPend
  simp only [Prod.mk.injEq] at hzz
  obtain ⟨hz0, hz1, hz2⟩ := hzz
  obtain ⟨_, hx, rfl⟩ := hx
  obtain ⟨xs0, g0, k1, k2, k3, k4⟩ := hR
  have k5 : w1.ownsRow 0 38 2 v ps.length xs0 := by
    refine ⟨k1.1, ?_⟩
    have hlt := k1.lt
    rcases k1.2 with e | ⟨g, cap, cur, hv, e1, e2, e3⟩
    · exact .inl e
    · subst hv
      exact .inr ⟨g, cap, cur, rfl, e1, (hb.block g (hlt g rfl).2).trans e2, e3⟩
  have hvb : ∀ b, v.ownBlock = some b → S b ∧ b < w0.heap.size := fun b e => ⟨k2 b e, (k1.lt b e).2⟩
  obtain ⟨v', w', hr, h1, h2, _, h4⟩ := run_append_own_at (P := Try.prog) (w1.alloc (.cells #[.int .i64 q, .slice da ds.length dc] 38)) 0 23 o.type 38 i0 _ 2 32 Try.underlying23 hi hz0 hz1 hz2 rfl (by decide) v _ _ (k5.alloc _) ⟨w1.heap.size, 0, none⟩ 1 1 [.int .i64 q, .slice da ds.length dc] rfl (fun j u hj => by
    match j, hj with
    | 0, hj => simp at hj; subst hj; simp [Addr.add, World.cell?_alloc_at]
    | 1, hj => simp at hj; subst hj; simp [Addr.add, World.cell?_alloc_at]) (fun u hu => by
    simp at hu
    rcases hu with rfl | rfl <;> rfl) (by unfold maxLen; omega) (by omega) (Nat.zero_le _)
  unfold Oper.wp execOp
  simp only [ho, resolve, invoke, builtin, Sem.run_bind, Sem.run_pure, Result.andThen_ok, List.map_toArray, List.map_cons, List.map_nil, hs, hx, hr]
  have hA := belowA w1 (.cells #[.int .i64 q, .slice da ds.length dc] 38)
  have hA2 : (w1.alloc (.cells #[.int .i64 q, .slice da ds.length dc] 38)).heap.size = w1.heap.size + 1 := by simp
  have hgr : w1.grownBy w' v.ownBlock := ⟨h2.os.trans hA.os, h2.tape.trans hA.tape, h2.output.trans hA.output, Nat.le_trans hA.size h2.size, fun k hk hn => (h2.block k (by omega) hn).trans (hA.block k hk)⟩
  refine h v' w' (PRow.snoc (w0 := w0) (w1 := w1) q ds xs0 g0 (fun i hi => ?_) k4 k1.1 hvb hb.size hgn hgn2 hw hS h1 hgr ?_) ⟨hgr.os, hgr.tape, hgr.output, hgr.size, fun k hk hn => hgr.block k hk fun e => hn (k2 k e.symm)⟩
  · obtain ⟨g1, g2, g3, g4, da', dc', g5, g6⟩ := k3 i hi
    exact ⟨g1, g2, g3, g4, da', dc', g5, g6.below hb⟩
  · rcases h4 with e | e
    · exact .inl e
    · exact .inr ⟨_, e, by omega⟩

/-- at a step of a region that draws its order -/
theorem step_appendR {ops : Array Oper} {o : Oper} {a : Act} {K : Act → World → Prop} {Q : Exit → Act → World → Prop} {E : Prop} (hgd : o.guard = none) (s x : Operand)
    (ho : o.op = .call { callee := .builtin .append, args := #[s, x], argTypes := #[23, 23] })
    {S : Nat → Prop} {w0 w1 : World} {v : Value} {ps : List (Int × List Int)} (q : Int) (ds : List Int) {m : Nat} (hm : ds.length = m) {da : Option Addr} {dc gn : Nat} (hR : PRow S w0 v ps) (hb : Below w0.heap.size w0 w1)
    (hgn : w0.heap.size ≤ gn) (hgn2 : gn < w1.heap.size) (hw : Own8 gn (gn + 1) w1 (.slice da m dc) ds) (hS : ∀ k, w0.heap.size ≤ k → S k)
    (hs : a.eval s = v) (hx : ∃ g, a.eval x = .slice (some ⟨g, 0, none⟩) 1 1 ∧ g = w1.heap.size) (hlen : ps.length < 1048576)
    (h : ∀ v' w', PRow S w' v' (ps ++ [(q, ds)]) → Frm S w1 w' → K (a.put o.dst v') w') :
    if Region.wanted o (yielded ops a.tmps) = true then Oper.wp Try.prog o a (w1.alloc (.cells #[.int .i64 q, .slice da m dc] 38)) K Q else E := by
  rw [if_pos (by simp [Region.wanted, hgd])]
  exact wp_appendR s x ho q ds hm hR hb hgn hgn2 hw hS hs hx hlen h

/-- in a plain region -/
theorem wpList_appendR {ops : Array Oper} {rest : List Oper} {o : Oper} {a : Act} {Q : Exit → Act → World → Prop} (hgd : o.guard = none) (s x : Operand)
    (ho : o.op = .call { callee := .builtin .append, args := #[s, x], argTypes := #[23, 23] })
    {S : Nat → Prop} {w0 w1 : World} {v : Value} {ps : List (Int × List Int)} (q : Int) (ds : List Int) {m : Nat} (hm : ds.length = m) {da : Option Addr} {dc gn : Nat} (hR : PRow S w0 v ps) (hb : Below w0.heap.size w0 w1)
    (hgn : w0.heap.size ≤ gn) (hgn2 : gn < w1.heap.size) (hw : Own8 gn (gn + 1) w1 (.slice da m dc) ds) (hS : ∀ k, w0.heap.size ≤ k → S k)
    (hs : a.eval s = v) (hx : ∃ g, a.eval x = .slice (some ⟨g, 0, none⟩) 1 1 ∧ g = w1.heap.size) (hlen : ps.length < 1048576)
    (h : ∀ v' w', PRow S w' v' (ps ++ [(q, ds)]) → Frm S w1 w' → wpList Try.prog ops Q rest (a.put o.dst v') w') :
    wpList Try.prog ops Q (o :: rest) a (w1.alloc (.cells #[.int .i64 q, .slice da m dc] 38)) :=
  wpList_plain hgd fun _ hK => wp_appendR s x ho q ds hm hR hb hgn hgn2 hw hS hs hx hlen fun v' w' h1 h2 => hK _ _ (h v' w' h1 h2)

/-- out of POwn and its block -/
theorem PRow.of_own {S : Nat → Prop} {g0 g : Nat} {w : World} {ps : List (Int × List Int)} {cur : Array Value} (h : POwn g0 g w (.slice (some ⟨g0, 0, none⟩) ps.length ps.length) ps) (hb : w.heap[g0]? = some (.cells cur 38 (0, 0))) (hc : cur.size = ps.length * 2) (hl : ps.length ≤ 1048576) (hS : ∀ k, g0 ≤ k → k < g → S k) (hg : g0 < g) : PRow S w (.slice (some ⟨g0, 0, none⟩) ps.length ps.length) ps := by
  obtain ⟨_, _, he, hp⟩ := h
  simp only [Value.slice.injEq, true_and] at he
  obtain ⟨rfl, rfl⟩ := he
  have hrow : w.ownsRow 0 38 2 (.slice (some ⟨g0, 0, none⟩) ps.length ps.length) ps.length cur.toList := ⟨by simpa using hc, .inr ⟨g0, ps.length, cur, rfl, Nat.zero_le _, hb, Nat.le_refl _, by unfold maxLen; omega, hc, by rw [← hc, ← Array.length_toList, List.take_length]⟩⟩
  have hsb : ∀ b, (Value.slice (some ⟨g0, 0, none⟩) ps.length ps.length).ownBlock = some b → S b := fun b e => by
    simp [Value.ownBlock] at e; subst e; exact hS _ (Nat.le_refl _) hg
  by_cases hz : 0 < ps.length
  · obtain ⟨b, off, ha, h1, h2, h3, gg, hgg, hj⟩ := hp hz
    simp only [Option.some.injEq, Addr.mk.injEq, and_true] at ha
    obtain ⟨rfl, rfl⟩ := ha
    refine ⟨_, gg, hrow, hsb, fun i hi => ?_, hj⟩
    obtain ⟨g1, g2, g3, g4, da, dc, e1, e2, e3, e4⟩ := hgg i hi
    rw [Nat.zero_add, hrow.cellAt _ (by omega)] at e1 e2
    exact ⟨hS _ g1 g2, g4, fun e => g3 (by simpa [Value.ownBlock] using e), e1, da, dc, e2, e4⟩
  · exact ⟨_, fun _ => 0, hrow, hsb, fun i hi => by omega, fun i j hi => by omega⟩
end Go.Proofs.Ytbadedhliplkeaa

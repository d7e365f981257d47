import Derived.Test.YtpjdhfbeofdplaaGreatDoorDvb
namespace Go.Proofs.YtpjdhfbeofdplaaGreatDoor
open Go.RowKit
set_option linter.unusedVariables false


/-- the []Pending value v reads in w as ps; spine and bytes lie in blocks of S, each in its own -/
def POwnS (S : Nat → Prop) (w : World) (v : Value) (ps : List (Int × List Int)) : Prop :=
  ∃ a cap, v = .slice a ps.length cap ∧ (0 < ps.length → ∃ b off, a = some ⟨b, off, none⟩ ∧ S b ∧ b < w.heap.size ∧ ∃ g : Nat → Nat, (∀ i, i < ps.length → S (g i) ∧ g i ≠ b ∧ g i < w.heap.size ∧ PEl w b off (g i) i (ps.getD i (0, []))) ∧ (∀ i j, i < ps.length → j < ps.length → g i = g j → i = j))

theorem POwnS.kept {S : Nat → Prop} {w w' : World} {v : Value} {ps : List (Int × List Int)} (h : POwnS S w v ps) (hs : w.heap.size ≤ w'.heap.size) (k : ∀ b, S b → b < w.heap.size → w'.heap[b]? = w.heap[b]?) : POwnS S w' v ps := by
  obtain ⟨a, cap, hv, hc⟩ := h
  refine ⟨a, cap, hv, fun hp => ?_⟩
  obtain ⟨b, off, ha, h1, h3, g, hg, hj⟩ := hc hp
  refine ⟨b, off, ha, h1, by omega, g, fun i hi => ?_, hj⟩
  obtain ⟨g1, g3, g4, g5⟩ := hg i hi
  exact ⟨g1, g3, by omega, g5.kept hs (k b h1 h3) (fun _ => k _ g1 g4)⟩

theorem POwnS.wider {S S' : Nat → Prop} {w : World} {v : Value} {ps : List (Int × List Int)} (h : POwnS S w v ps) (e : ∀ k, S k → k < w.heap.size → S' k) : POwnS S' w v ps := by
  obtain ⟨a, cap, hv, hc⟩ := h
  refine ⟨a, cap, hv, fun hp => ?_⟩
  obtain ⟨b, off, ha, h1, h3, g, hg, hj⟩ := hc hp
  refine ⟨b, off, ha, e _ h1 h3, h3, g, fun i hi => ?_, hj⟩
  obtain ⟨g1, g3, g4, g5⟩ := hg i hi
  exact ⟨e _ g1 g4, g3, g4, g5⟩

theorem POwnS.empty (S : Nat → Prop) (w : World) (a : Option Addr) (cap : Nat) : POwnS S w (.slice a 0 cap) [] := ⟨a, cap, rfl, fun h => by simp at h⟩

theorem POwn.toS {lo hi : Nat} {w : World} {v : Value} {ps : List (Int × List Int)} (h : POwn lo hi w v ps) : POwnS (fun k => lo ≤ k ∧ k < hi) w v ps := by
  obtain ⟨a, cap, hv, hc⟩ := h
  refine ⟨a, cap, hv, fun hp => ?_⟩
  obtain ⟨b, off, ha, h1, h2, h3, g, hg, hj⟩ := hc hp
  refine ⟨b, off, ha, ⟨h1, h2⟩, h3, g, fun i hi => ?_, hj⟩
  obtain ⟨g1, g2, g3, g4, g5⟩ := hg i hi
  exact ⟨⟨g1, g2⟩, g3, g4, g5⟩

/-- as DOwn: disk and cache in blocks from lo up to hi, apart, but in any order -/
def DOwnX (lo hi : Nat) (w : World) (v : Value) (B : Int) (zs : List Int) (ps : List (Int × List Int)) : Prop :=
  ∃ da dc ca cc l1 h1, v = .agg #[.int .i64 B, .slice da zs.length dc, .slice ca ps.length cc] ∧ lo ≤ l1 ∧ h1 ≤ hi ∧ Own8 l1 h1 w (.slice da zs.length dc) zs ∧ POwnS (fun k => lo ≤ k ∧ k < hi ∧ ¬ (l1 ≤ k ∧ k < h1)) w (.slice ca ps.length cc) ps

theorem DOwnX.below {lo hi : Nat} {w w' : World} {v : Value} {B : Int} {zs : List Int} {ps : List (Int × List Int)} (h : DOwnX lo hi w v B zs ps) (k : Below w.heap.size w w') : DOwnX lo hi w' v B zs ps := by
  obtain ⟨da, dc, ca, cc, l1, h1, hv, q1, q2, k1, k2⟩ := h
  exact ⟨da, dc, ca, cc, l1, h1, hv, q1, q2, k1.below k, k2.kept k.size (fun b _ hb => k.block b hb)⟩

theorem DOwnX.upd {lo hi lo' hi' : Nat} {w w' : World} {v : Value} {B : Int} {zs : List Int} {ps : List (Int × List Int)} (h : DOwnX lo hi w v B zs ps) (k : Upd lo' hi' w w') (hd : hi ≤ lo' ∨ hi' ≤ lo) : DOwnX lo hi w' v B zs ps := by
  obtain ⟨da, dc, ca, cc, l1, h1, hv, q1, q2, k1, k2⟩ := h
  exact ⟨da, dc, ca, cc, l1, h1, hv, q1, q2, k1.upd k (by omega), k2.kept k.size (fun b hb hl => k.block b hl (by omega))⟩

theorem DOwn.toX {lo hi : Nat} {w : World} {v : Value} {B : Int} {zs : List Int} {ps : List (Int × List Int)} (h : DOwn lo hi w v B zs ps) : DOwnX lo hi w v B zs ps := by
  obtain ⟨da, dc, ca, cc, l1, h1, l2, h2, hv, q1, q2, q3, q4, q5, k1, k2⟩ := h
  exact ⟨da, dc, ca, cc, l1, h1, hv, q1, q2, k1, k2.toS.wider (fun k hk _ => by omega)⟩


/-- v is a row of the call's own that reads as ps: it may be appended to; spine and bytes lie in blocks of S, each in its own -/
def PRow (S : Nat → Prop) (w : World) (v : Value) (ps : List (Int × List Int)) : Prop :=
  ∃ (xs : List Value) (g : Nat → Nat), w.ownsRow 0 63 2 v ps.length xs ∧ (∀ b, v.ownBlock = some b → S b) ∧
    (∀ i, i < ps.length → S (g i) ∧ g i < w.heap.size ∧ some (g i) ≠ v.ownBlock ∧ xs[i * 2]? = some (.int .i64 (ps.getD i (0, [])).1) ∧ ∃ da dc, xs[i * 2 + 1]? = some (.slice da (ps.getD i (0, [])).2.length dc) ∧ Own8 (g i) (g i + 1) w (.slice da (ps.getD i (0, [])).2.length dc) (ps.getD i (0, [])).2) ∧
    (∀ i j, i < ps.length → j < ps.length → g i = g j → i = j)

theorem getD_snoc (ps : List (Int × List Int)) (p : Int × List Int) : (ps ++ [p]).getD ps.length (0, []) = p := by simp

theorem getD_snoc_lt (ps : List (Int × List Int)) (p : Int × List Int) (i : Nat) (h : i < ps.length) : (ps ++ [p]).getD i (0, []) = ps.getD i (0, []) := by simp [List.getElem?_append_left h]

theorem PRow.nil (S : Nat → Prop) (w : World) : PRow S w (.slice none 0 0) [] :=
  ⟨[], fun _ => 0, World.ownsRow_nil _ _ _ _, fun b h => by simp [Value.ownBlock] at h, fun i hi => by simp at hi, fun i _ hi => by simp at hi⟩

theorem PRow.form {S : Nat → Prop} {w : World} {v : Value} {ps : List (Int × List Int)} (h : PRow S w v ps) : ∃ a cap, v = .slice a ps.length cap := by
  obtain ⟨xs, g, h1, _⟩ := h
  rcases h1.2 with ⟨hv, hn⟩ | ⟨g, cap, cur, hv, _⟩
  · exact ⟨none, 0, by rw [hv, hn]⟩
  · exact ⟨_, _, hv⟩

theorem PRow.kept {S : Nat → Prop} {w w' : World} {v : Value} {ps : List (Int × List Int)} (h : PRow S w v ps) (hs : w.heap.size ≤ w'.heap.size) (k : ∀ b, S b → b < w.heap.size → w'.heap[b]? = w.heap[b]?) : PRow S w' v ps := by
  obtain ⟨xs, g, h1, h2, h3, h4⟩ := h
  refine ⟨xs, g, ⟨h1.1, ?_⟩, h2, fun i hi => ?_, h4⟩
  · have hlt := h1.lt
    rcases h1.2 with e | ⟨g, cap, cur, hv, e1, e2, e3⟩
    · exact .inl e
    · subst hv
      exact .inr ⟨g, cap, cur, rfl, e1, (k g (h2 g rfl) (hlt g rfl).2).trans e2, e3⟩
  · obtain ⟨g1, g2, g3, g4, da, dc, g5, g6⟩ := h3 i hi
    exact ⟨g1, by omega, g3, g4, da, dc, g5, g6.kept hs fun q q1 q2 q3 => by
      obtain rfl : q = g i := by omega
      exact k _ g1 q3⟩

theorem PRow.below {S : Nat → Prop} {w w' : World} {v : Value} {ps : List (Int × List Int)} (h : PRow S w v ps) (k : Below w.heap.size w w') : PRow S w' v ps := h.kept k.size fun b _ hb => k.block b hb

theorem PRow.own {S : Nat → Prop} {w : World} {v : Value} {ps : List (Int × List Int)} (h : PRow S w v ps) : POwnS S w v ps := by
  obtain ⟨a, cap, hf⟩ := h.form
  obtain ⟨xs, g, h1, h2, h3, h4⟩ := h
  refine ⟨a, cap, hf, fun hp => ?_⟩
  have hlt := h1.lt
  rcases h1.2 with ⟨_, e⟩ | ⟨b, cap, cur, hv, e1, e2, e3⟩
  · omega
  · subst hv
    have hca := h1.cellAt
    have hfr := h1.frozenAt
    simp only [Value.slice.injEq] at hf
    obtain ⟨rfl, _, rfl⟩ := hf
    refine ⟨b, 0, rfl, h2 b rfl, (hlt b rfl).2, g, fun i hi => ?_, h4⟩
    obtain ⟨g1, g2, g3, g4, da, dc, g5, g6⟩ := h3 i hi
    refine ⟨g1, fun e => g3 (by simp [Value.ownBlock, e]), g2, da, dc, ?_, ?_, ?_, g6⟩
    · rw [Nat.zero_add, hca (i * 2) (by omega)]; exact g4
    · rw [Nat.zero_add, hca (i * 2 + 1) (by omega)]; exact g5
    · rw [Nat.zero_add]; exact hfr (i * 2)

/-- one more -/
theorem PRow.snoc {S : Nat → Prop} {w0 w1 w' : World} {v v' : Value} {ps : List (Int × List Int)} (q : Int) (ds : List Int) {da : Option Addr} {dc gn : Nat} (xs : List Value) (g : Nat → Nat)
    (h3 : ∀ i, i < ps.length → S (g i) ∧ g i < w0.heap.size ∧ some (g i) ≠ v.ownBlock ∧ xs[i * 2]? = some (.int .i64 (ps.getD i (0, [])).1) ∧ ∃ da dc, xs[i * 2 + 1]? = some (.slice da (ps.getD i (0, [])).2.length dc) ∧ Own8 (g i) (g i + 1) w1 (.slice da (ps.getD i (0, [])).2.length dc) (ps.getD i (0, [])).2)
    (h4 : ∀ i j, i < ps.length → j < ps.length → g i = g j → i = j) (hx : xs.length = ps.length * 2) (hv : ∀ b, v.ownBlock = some b → S b ∧ b < w0.heap.size) (hsz : w0.heap.size ≤ w1.heap.size)
    (hgn : w0.heap.size ≤ gn) (hgn2 : gn < w1.heap.size) (ho : Own8 gn (gn + 1) w1 (.slice da ds.length dc) ds) (hS : ∀ k, w0.heap.size ≤ k → S k)
    (hown : w'.ownsRow 0 63 2 v' (ps.length + 1) (xs ++ [.int .i64 q, .slice da ds.length dc])) (hgr : w1.grownBy w' v.ownBlock) (hat : v'.ownBlock = v.ownBlock ∨ ∃ k, v'.ownBlock = some k ∧ w1.heap.size ≤ k) :
    PRow S w' v' (ps ++ [(q, ds)]) := by
  have hne : ∀ k, w0.heap.size ≤ k → some k ≠ v.ownBlock := fun k hk e => by have := (hv k e.symm).2; omega
  refine ⟨_, fun i => if i = ps.length then gn else g i, by simpa using hown, fun b hb => ?_, fun i hi => ?_, fun i j hi hj he => ?_⟩
  · rcases hat with e | ⟨k, e, hk⟩
    · exact (hv b (e ▸ hb)).1
    · rw [e] at hb; cases hb; exact hS _ (by omega)
  · by_cases he : i = ps.length
    · subst he
      simp only [if_true, getD_snoc]
      refine ⟨hS _ hgn, by have := hgr.size; omega, fun e => ?_, ?_, da, dc, ?_, ho.kept hgr.size fun x x1 x2 x3 => hgr.block x x3 (hne x (by omega))⟩
      · rcases hat with e1 | ⟨k, e1, hk⟩
        · rw [e1] at e; exact hne _ hgn e
        · rw [e1] at e; cases e; omega
      · rw [List.getElem?_append_right (by omega), hx]; simp
      · rw [List.getElem?_append_right (by omega), hx, show ps.length * 2 + 1 - ps.length * 2 = 1 by omega]; rfl
    · have hi' : i < ps.length := by simp at hi; omega
      obtain ⟨g1, g2, g3, g4, da', dc', g5, g6⟩ := h3 i hi'
      simp only [if_neg he, getD_snoc_lt _ _ _ hi']
      refine ⟨g1, by have := hgr.size; omega, fun e => ?_, ?_, da', dc', ?_, g6.kept hgr.size fun x x1 x2 x3 => hgr.block x x3 ?_⟩
      · rcases hat with e1 | ⟨k, e1, hk⟩
        · rw [e1] at e; exact g3 e
        · rw [e1] at e; cases e; omega
      · rw [List.getElem?_append_left (by omega)]; exact g4
      · rw [List.getElem?_append_left (by omega)]; exact g5
      · obtain rfl : x = g i := by omega
        exact g3
  · simp only [List.length_append, List.length_cons, List.length_nil] at hi hj he
    by_cases h1 : i = ps.length
    · by_cases h2 : j = ps.length
      · omega
      · rw [if_pos h1, if_neg h2] at he
        have := (h3 j (by omega)).2.1
        omega
    · by_cases h2 : j = ps.length
      · rw [if_neg h1, if_pos h2] at he
        have := (h3 i (by omega)).2.1
        omega
      · rw [if_neg h1, if_neg h2] at he
        exact h4 i j (by omega) (by omega) he

/-- 'append(out, Pending{q, bytes})', at the operation -/
theorem wp_appendR {o : Oper} {a : Act} {K : Act → World → Prop} {Q : Exit → Act → World → Prop} (s x : Operand)
    (ho : o.op = .call { callee := .builtin .append, args := #[s, x], argTypes := #[33, 33] })
    {S : Nat → Prop} {w0 w1 : World} {v : Value} {ps : List (Int × List Int)} (q : Int) (ds : List Int) {m : Nat} (hm : ds.length = m) {da : Option Addr} {dc gn : Nat} (hR : PRow S w0 v ps) (hb : Below w0.heap.size w0 w1)
    (hgn : w0.heap.size ≤ gn) (hgn2 : gn < w1.heap.size) (hw : Own8 gn (gn + 1) w1 (.slice da m dc) ds) (hS : ∀ k, w0.heap.size ≤ k → S k)
    (hs : a.eval s = v) (hx : ∃ g, a.eval x = .slice (some ⟨g, 0, none⟩) 1 1 ∧ g = w1.heap.size) (hlen : ps.length < 1048576)
    (h : ∀ v' w', PRow S w' v' (ps ++ [(q, ds)]) → Frm S w1 w' → K (a.put o.dst v') w') :
    o.wp Tryz.prog a (w1.alloc (.cells #[.int .i64 q, .slice da m dc] 63)) K Q := by
  subst hm
  obtain ⟨i0, hi, hzz⟩ := Option.map_eq_some_iff.1 infoPend
  simp only [Prod.mk.injEq] at hzz
  obtain ⟨hz0, hz1, hz2⟩ := hzz
  obtain ⟨_, hx, rfl⟩ := hx
  obtain ⟨xs0, g0, k1, k2, k3, k4⟩ := hR
  have k5 : w1.ownsRow 0 63 2 v ps.length xs0 := by
    refine ⟨k1.1, ?_⟩
    have hlt := k1.lt
    rcases k1.2 with e | ⟨g, cap, cur, hv, e1, e2, e3⟩
    · exact .inl e
    · subst hv
      exact .inr ⟨g, cap, cur, rfl, e1, (hb.block g (hlt g rfl).2).trans e2, e3⟩
  have hvb : ∀ b, v.ownBlock = some b → S b ∧ b < w0.heap.size := fun b e => ⟨k2 b e, (k1.lt b e).2⟩
  obtain ⟨v', w', hr, h1, h2, _, h4⟩ := run_append_own_at (P := Tryz.prog) (w1.alloc (.cells #[.int .i64 q, .slice da ds.length dc] 63)) 0 33 o.type 63 i0 _ 2 32 Tryz.underlying33 hi hz0 hz1 hz2 rfl (by decide) v _ _ (k5.alloc _) ⟨w1.heap.size, 0, none⟩ 1 1 [.int .i64 q, .slice da ds.length dc] rfl (fun j u hj => by
    match j, hj with
    | 0, hj => simp at hj; subst hj; simp [Addr.add, World.cell?_alloc_at]
    | 1, hj => simp at hj; subst hj; simp [Addr.add, World.cell?_alloc_at]) (fun u hu => by
    simp at hu
    rcases hu with rfl | rfl <;> rfl) (by unfold maxLen; omega) (by omega) (Nat.zero_le _)
  unfold Oper.wp execOp
  simp only [ho, resolve, invoke, builtin, Sem.run_bind, Sem.run_pure, Result.andThen_ok, List.map_toArray, List.map_cons, List.map_nil, hs, hx, hr]
  have hA := belowA w1 (.cells #[.int .i64 q, .slice da ds.length dc] 63)
  have hA2 : (w1.alloc (.cells #[.int .i64 q, .slice da ds.length dc] 63)).heap.size = w1.heap.size + 1 := by simp
  have hgr : w1.grownBy w' v.ownBlock := ⟨h2.os.trans hA.os, h2.tape.trans hA.tape, h2.output.trans hA.output, Nat.le_trans hA.size h2.size, fun k hk hn => (h2.block k (by omega) hn).trans (hA.block k hk)⟩
  refine h v' w' (PRow.snoc (w0 := w0) (w1 := w1) q ds xs0 g0 (fun i hi => ?_) k4 k1.1 hvb hb.size hgn hgn2 hw hS h1 hgr ?_) ⟨hgr.os, hgr.tape, hgr.output, hgr.size, fun k hk hn => hgr.block k hk fun e => hn (k2 k e.symm)⟩
  · obtain ⟨g1, g2, g3, g4, da', dc', g5, g6⟩ := k3 i hi
    exact ⟨g1, g2, g3, g4, da', dc', g5, g6.below hb⟩
  · rcases h4 with e | e
    · exact .inl e
    · exact .inr ⟨_, e, by omega⟩

/-- at a step of a region that draws its order -/
theorem step_appendR {ops : Array Oper} {o : Oper} {a : Act} {K : Act → World → Prop} {Q : Exit → Act → World → Prop} {E : Prop} (hgd : o.guard = none) (s x : Operand)
    (ho : o.op = .call { callee := .builtin .append, args := #[s, x], argTypes := #[33, 33] })
    {S : Nat → Prop} {w0 w1 : World} {v : Value} {ps : List (Int × List Int)} (q : Int) (ds : List Int) {m : Nat} (hm : ds.length = m) {da : Option Addr} {dc gn : Nat} (hR : PRow S w0 v ps) (hb : Below w0.heap.size w0 w1)
    (hgn : w0.heap.size ≤ gn) (hgn2 : gn < w1.heap.size) (hw : Own8 gn (gn + 1) w1 (.slice da m dc) ds) (hS : ∀ k, w0.heap.size ≤ k → S k)
    (hs : a.eval s = v) (hx : ∃ g, a.eval x = .slice (some ⟨g, 0, none⟩) 1 1 ∧ g = w1.heap.size) (hlen : ps.length < 1048576)
    (h : ∀ v' w', PRow S w' v' (ps ++ [(q, ds)]) → Frm S w1 w' → K (a.put o.dst v') w') :
    if Region.wanted o (yielded ops a.tmps) = true then Oper.wp Tryz.prog o a (w1.alloc (.cells #[.int .i64 q, .slice da m dc] 63)) K Q else E := by
  rw [if_pos (by simp [Region.wanted, hgd])]
  exact wp_appendR s x ho q ds hm hR hb hgn hgn2 hw hS hs hx hlen h

/-- out of POwn and its block -/
theorem PRow.of_own {S : Nat → Prop} {g0 g : Nat} {w : World} {ps : List (Int × List Int)} {cur : Array Value} (h : POwn g0 g w (.slice (some ⟨g0, 0, none⟩) ps.length ps.length) ps) (hb : w.heap[g0]? = some (.cells cur 63 (0, 0))) (hc : cur.size = ps.length * 2) (hl : ps.length ≤ 1048576) (hS : ∀ k, g0 ≤ k → k < g → S k) (hg : g0 < g) : PRow S w (.slice (some ⟨g0, 0, none⟩) ps.length ps.length) ps := by
  obtain ⟨_, _, he, hp⟩ := h
  simp only [Value.slice.injEq, true_and] at he
  obtain ⟨rfl, rfl⟩ := he
  have hrow : w.ownsRow 0 63 2 (.slice (some ⟨g0, 0, none⟩) ps.length ps.length) ps.length cur.toList := ⟨by simpa using hc, .inr ⟨g0, ps.length, cur, rfl, Nat.zero_le _, hb, Nat.le_refl _, by unfold maxLen; omega, hc, by rw [← hc, ← Array.length_toList, List.take_length]⟩⟩
  have hsb : ∀ b, (Value.slice (some ⟨g0, 0, none⟩) ps.length ps.length).ownBlock = some b → S b := fun b e => by
    simp [Value.ownBlock] at e; subst e; exact hS _ (Nat.le_refl _) hg
  by_cases hz : 0 < ps.length
  · obtain ⟨b, off, ha, h1, h2, h3, gg, hgg, hj⟩ := hp hz
    simp only [Option.some.injEq, Addr.mk.injEq, and_true] at ha
    obtain ⟨rfl, rfl⟩ := ha
    refine ⟨_, gg, hrow, hsb, fun i hi => ?_, hj⟩
    obtain ⟨g1, g2, g3, g4, da, dc, e1, e2, e3, e4⟩ := hgg i hi
    rw [Nat.zero_add, hrow.cellAt _ (by omega)] at e1 e2
    exact ⟨hS _ g1 g2, g4, fun e => g3 (by simpa [Value.ownBlock] using e), e1, da, dc, e2, e4⟩
  · exact ⟨_, fun _ => 0, hrow, hsb, fun i hi => by omega, fun i j hi => by omega⟩


theorem PRow.form_snoc {S : Nat → Prop} {w : World} {v : Value} {ps : List (Int × List Int)} {e : Int × List Int} (h : PRow S w v (ps ++ [e])) : ∃ a cap, v = .slice a (ps.length + 1) cap := by
  obtain ⟨a, cap, h⟩ := h.form
  exact ⟨a, cap, by simpa using h⟩

theorem write_end {S : Nat → Prop} {p : Nat} {w w1 w2 w3 : World} {x u c v' : Value} {t : TypeId} {ps : List (Int × List Int)} (hP3 : Box3 w3 p x u c t) (hR3 : PRow S w3 v' ps) (hF3 : Frm S w2 w3) (hb : Below w1.drew.heap.size w1.drew w2) (hb1 : Below w.heap.size w w1) (hpS : ¬ S p) :
    Box3 (w3.setCell ⟨p, 2, none⟩ v') p x u v' t ∧ PRow S (w3.setCell ⟨p, 2, none⟩ v') v' ps ∧ Frm (fun k => S k ∨ k = p) w (w3.setCell ⟨p, 2, none⟩ v') := by
  refine ⟨?_, hR3.kept (by simp) (fun b hb _ => Below.heap_setCell _ _ _ _ (fun e => hpS (by have e' : b = p := e; exact e' ▸ hb))), ?_⟩
  · have := heap_setCell_same w3 p 2 _ t v' hP3
    simpa [Box3] using this
  · have h1 : Frm (fun k => S k ∨ k = p) w w1 := Frm.of_below hb1
    have h2 : Frm (fun k => S k ∨ k = p) w1 w2 := Frm.of_below ((Below.refl _ _).drew.trans hb)
    have h3 : Frm (fun k => S k ∨ k = p) w2 w3 := hF3.wider (fun k hk => .inl hk)
    exact ((h1.trans h2).trans h3).setCell (p := ⟨p, 2, none⟩) (Or.inr rfl) _

set_option maxRecDepth 100000 in
set_option maxHeartbeats 2000000 in
theorem write_yes (S : Nat → Prop) (p : Nat) (B q : Int) (u c : Value) (ea : Option Addr) (ec : Nat) (ds : List Int) (ps : List (Int × List Int)) (w : World) (hP : Box3 w p (.int .i64 B) u c 35) (hR : PRow S w c ps) (hpS : ¬ S p) (hS : ∀ k, w.heap.size ≤ k → S k) (hB1 : 1 ≤ B) (hB2 : B ≤ 512)
    (hq : inB q 0 (B - 1) = true) (hd : ds.length = 128) (hn : ps.length < 2048) (hv : Bts w (.slice ea ds.length ec) ds) :
    Calls Tryz.prog 44 #[.pointer (some ⟨p, 0, none⟩), .int .i64 q, .slice ea ds.length ec] w fun e w' => ∃ c', e = .returned (.int .i64 0) ∧ Box3 w' p (.int .i64 B) u c' 35 ∧ PRow S w' c' (ps ++ [(q, ds)]) ∧ Frm (fun k => S k ∨ k = p) w w' := by
  obtain ⟨ca, cc, rfl⟩ := hR.form
  obtain ⟨p0, p1, p2⟩ := hP.cells
  go_enter Tryz.func44, Tryz.ntmps44
  go_wp2_with fail
  refine (has_any B q _ _ _ hB1 hB2).mono ?_
  rintro e w1 ⟨rfl, hb1⟩
  rw [hq]
  have hP1 := hP.below hb1
  have hR1 := hR.below hb1
  have hv1 := hv.below hb1
  have hS1 : ∀ k, w1.heap.size ≤ k → S k := fun k hk => hS k (by have := hb1.size; omega)
  rw [hd] at hv1
  have hsh := hv1.shape
  obtain ⟨_, _, he, hx⟩ := hsh
  rw [hd] at he hx
  simp only [Value.slice.injEq, true_and] at he
  obtain ⟨rfl, rfl⟩ := he
  obtain ⟨eb, eo, rfl, -⟩ := hx (by omega)
  have hl : (ps.length : Int) < 2048 := by omega
  rw [hd]
  have HD : Hid (ds.length = 128) := hd
  have hP1' : Box3 w1.drew p (.int .i64 B) u (.slice ca ps.length cc) 35 := hP1
  have hR1' : PRow S w1.drew (.slice ca ps.length cc) ps := hR1.below (Below.refl _ _).drew
  clear p0 p1 p2 hx hq hP hR hv hd hS hR1
  obtain ⟨p0, p1, p2⟩ := hP1.cells
  go_wp2_with fail
  go_region_law (first | (refine step_appendR (by rfl) _ _ (by rfl) q ds rfl hR1' h3 h1 h4 h5 hS1 (by rfl) ⟨_, by rfl, by rfl⟩ (by omega) ?_; intro v' w3 hR3 hF3; obtain ⟨va, vn, rfl⟩ := hR3.form_snoc; have hP3 : Box3 w3 p (.int .i64 B) u (.slice ca ps.length cc) 35 := (hF3.block p hP2.lt hpS).trans hP2; obtain ⟨r0, r1, r2⟩ := hP3.cells; have hfr := hP3.free) | (go_simp; go_at_call 43; refine (clone_any eb eo 128 ec ds _ HD.out (by omega) (by omega) ?_).mono ?_; exact hv1.below (Below.refl _ _).drew; rintro e w2 ⟨v, gn, rfl, h1, h2, h3⟩; obtain ⟨vc, rfl, hvc⟩ := h2.form; have h4 := h2.lt; have h5 := h2.own; have hP2 := Box3.below hP1' h3; have hpl := hP2.lt; obtain ⟨t0, t1, t2⟩ := hP2.cells))
  all_goals
    obtain ⟨e1, e2, e3⟩ := write_end hP3 hR3 hF3 h3 hb1 hpS
    clear hP3 hR3 hF3 h1 h2 h3 h4 h5 hP2 hP1 hP1' hR1' t0 t1 t2 r0 r1 r2 p0 p1 p2 hfr
    go_wp2
    go_ret
    exact ⟨_, rfl, e1, e2, e3⟩


/-- the code of a write of m bytes into block q, n writes lying in the cache -/
def wC (B : Int) (n : Nat) (q : Int) (m : Nat) : Int := if inB q 0 (B - 1) = true then (if m = 128 then (if n < 2048 then 0 else 4) else 3) else 2

/-- the cache behind it -/
def wP (B : Int) (ps : List (Int × List Int)) (q : Int) (ds : List Int) : List (Int × List Int) := if wC B ps.length q ds.length = 0 then ps ++ [(q, ds)] else ps

theorem wC_yes {B : Int} {n : Nat} {q : Int} {m : Nat} : wC B n q m = 0 ↔ inB q 0 (B - 1) = true ∧ m = 128 ∧ n < 2048 := by
  unfold wC
  constructor
  · intro h
    split at h
    · split at h
      · split at h
        · exact ⟨by assumption, by assumption, by assumption⟩
        · cases h
      · cases h
    · cases h
  · rintro ⟨h1, h2, h3⟩
    rw [if_pos h1, if_pos h2, if_pos h3]

set_option maxRecDepth 100000 in
set_option maxHeartbeats 2000000 in
theorem write_no (p : Nat) (B q : Int) (u : Value) (ca ea : Option Addr) (cc ec : Nat) (n m : Nat) (w : World) (hP : Box3 w p (.int .i64 B) u (.slice ca n cc) 35) (hB1 : 1 ≤ B) (hB2 : B ≤ 512) (hno : ¬ wC B n q m = 0) (hm : m ≤ 1048576) (hn : n ≤ 1048576) :
    Calls Tryz.prog 44 #[.pointer (some ⟨p, 0, none⟩), .int .i64 q, .slice ea m ec] w fun e w' => e = .returned (.int .i64 (wC B n q m)) ∧ Below w.heap.size w w' := by
  obtain ⟨p0, p1, p2⟩ := hP.cells
  cases hq : inB q 0 (B - 1) with
  | false =>
    have he : wC B n q m = 2 := by unfold wC; rw [hq]; rfl
    rw [he]
    go_enter Tryz.func44, Tryz.ntmps44
    go_wp2_with fail
    refine (has_any B q _ _ _ hB1 hB2).mono ?_
    rintro e w1 ⟨rfl, hb1⟩
    rw [hq]
    clear p0 p1 p2 hP hq hno he
    go_wp2
    go_ret
    exact ⟨rfl, hb1⟩
  | true =>
    by_cases hm1 : m = 128
    · have hn1 : ¬ n < 2048 := fun hh => hno (wC_yes.2 ⟨hq, hm1, hh⟩)
      have he : wC B n q m = 4 := by unfold wC; rw [if_pos hq, if_pos hm1, if_neg hn1]
      rw [he]
      subst hm1
      have hl : ¬ (n : Int) < 2048 := by omega
      go_enter Tryz.func44, Tryz.ntmps44
      go_wp2_with fail
      refine (has_any B q _ _ _ hB1 hB2).mono ?_
      rintro e w1 ⟨rfl, hb1⟩
      rw [hq]
      have hP1 := hP.below hb1
      clear p0 p1 p2 hP hq hno he
      obtain ⟨p0, p1, p2⟩ := hP1.cells
      go_wp2
      go_ret
      exact ⟨rfl, hb1⟩
    · have he : wC B n q m = 3 := by unfold wC; rw [if_pos hq, if_neg hm1]
      rw [he]
      have hl : ¬ (m : Int) = 128 := by omega
      have hne : ((m : Int) != 128) = true := by simp [hl]
      go_enter Tryz.func44, Tryz.ntmps44
      go_wp2_with fail
      refine (has_any B q _ _ _ hB1 hB2).mono ?_
      rintro e w1 ⟨rfl, hb1⟩
      rw [hq]
      clear p0 p1 p2 hP hq hno he
      go_wp2
      go_ret
      exact ⟨rfl, hb1⟩

theorem write_any (S : Nat → Prop) (p : Nat) (B q : Int) (u c : Value) (ea : Option Addr) (ec : Nat) (ds : List Int) (ps : List (Int × List Int)) (w : World) (hP : Box3 w p (.int .i64 B) u c 35) (hR : PRow S w c ps) (hpS : ¬ S p) (hS : ∀ k, w.heap.size ≤ k → S k) (hB1 : 1 ≤ B) (hB2 : B ≤ 512)
    (hd : ds.length ≤ 1048576) (hn : ps.length ≤ 1048576) (hv : Bts w (.slice ea ds.length ec) ds) :
    Calls Tryz.prog 44 #[.pointer (some ⟨p, 0, none⟩), .int .i64 q, .slice ea ds.length ec] w fun e w' => ∃ c', e = .returned (.int .i64 (wC B ps.length q ds.length)) ∧ Box3 w' p (.int .i64 B) u c' 35 ∧ PRow S w' c' (wP B ps q ds) ∧ Frm (fun k => S k ∨ k = p) w w' := by
  unfold wP
  by_cases h : wC B ps.length q ds.length = 0
  · obtain ⟨h1, h2, h3⟩ := wC_yes.1 h
    rw [if_pos h, h]
    exact write_yes S p B q u c ea ec ds ps w hP hR hpS hS hB1 hB2 h1 h2 h3 hv
  · rw [if_neg h]
    obtain ⟨ca, cc, rfl⟩ := hR.form
    refine (write_no p B q u ca ea cc ec ps.length ds.length w hP hB1 hB2 h hd hn).mono fun e w' hq => ?_
    obtain ⟨rfl, hb⟩ := hq
    exact ⟨_, rfl, hP.below hb, hR.below hb, Frm.of_below hb⟩


theorem RowAt.cells3 {w3 : World} {g r : Nat} {u : Value} {zs : List Int} (h : RowAt w3 g u zs) (hne : g ≠ r) (x y z : Value) : RowAt (((w3.setCell ⟨r, 0, none⟩ x).setCell ⟨r, 1, none⟩ y).setCell ⟨r, 2, none⟩ z) g u zs :=
  h.block ((Below.heap_setCell _ _ _ _ hne).trans ((Below.heap_setCell _ _ _ _ hne).trans (Below.heap_setCell _ _ _ _ hne)))

/-- the answer's block written: what the answer holds -/
theorem res_endX {S : Nat → Prop} {w w3 : World} {g r : Nat} {B : Int} {ua ca : Option Addr} {uc cc : Nat} {zs : List Int} {ps : List (Int × List Int)} (hb : Below w.heap.size w w3) (h2 : RowAt w3 g (.slice ua zs.length uc) zs) (hR : PRow S w3 (.slice ca ps.length cc) ps) (hS : ∀ k, S k → w.heap.size ≤ k ∧ k ≠ g ∧ k ≠ r) (h3 : w.heap.size ≤ r) (h4 : r ≠ g) (h5 : w.heap.size ≤ g) (x y z : Value) :
    DOwnX w.heap.size (((w3.setCell ⟨r, 0, none⟩ x).setCell ⟨r, 1, none⟩ y).setCell ⟨r, 2, none⟩ z).heap.size (((w3.setCell ⟨r, 0, none⟩ x).setCell ⟨r, 1, none⟩ y).setCell ⟨r, 2, none⟩ z) (.agg #[.int .i64 B, .slice ua zs.length uc, .slice ca ps.length cc]) B zs ps ∧
      Below w.heap.size w (((w3.setCell ⟨r, 0, none⟩ x).setCell ⟨r, 1, none⟩ y).setCell ⟨r, 2, none⟩ z) := by
  have h6 := h2.cells3 (fun e => h4 e.symm) x y z
  have hlt := h6.lt
  have hsz : (((w3.setCell ⟨r, 0, none⟩ x).setCell ⟨r, 1, none⟩ y).setCell ⟨r, 2, none⟩ z).heap.size = w3.heap.size := by simp
  refine ⟨⟨ua, uc, ca, cc, g, g + 1, rfl, h5, by omega, h6.own, ?_⟩, ((hb.setCell (p := ⟨r, 0, none⟩) h3 x).setCell (p := ⟨r, 1, none⟩) h3 y).setCell (p := ⟨r, 2, none⟩) h3 z⟩
  refine (hR.kept (by omega) (fun b hb _ => ?_)).own.wider (fun k hk hl => ?_)
  · have hne : b ≠ r := (hS b hb).2.2
    exact (Below.heap_setCell _ _ _ _ hne).trans ((Below.heap_setCell _ _ _ _ hne).trans (Below.heap_setCell _ _ _ _ hne))
  · have := hS k hk
    omega

theorem DOwnX.none {lo hi : Nat} {w : World} (h : lo ≤ hi) : DOwnX lo hi w (.agg #[.int .i64 0, .slice none 0 0, .slice none 0 0]) 0 [] [] :=
  (DOwn.of_disk (zs := []) h (Own8.empty _ _ _ _ _)).toX
end Go.Proofs.YtpjdhfbeofdplaaGreatDoor

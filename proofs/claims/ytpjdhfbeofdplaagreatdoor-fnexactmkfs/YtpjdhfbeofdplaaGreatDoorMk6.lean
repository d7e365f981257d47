import Derived.Test.YtpjdhfbeofdplaaGreatDoorMk5
namespace Go.Proofs.YtpjdhfbeofdplaaGreatDoor
open Go.RowKit

/-- the []Step value v is a row of the call's own with these cells -/
def StR (base : Nat) (w : World) (v : Value) (n : Nat) (cs : List Value) : Prop := w.ownsRow base 50 3 v n cs

/-- nothing but rows of steps may have changed -/
def NoSt (w w' : World) : Prop := w.heap.size ≤ w'.heap.size ∧ ∀ g, g < w.heap.size → (∀ cs fr, w.heap[g]? ≠ some (.cells cs 50 fr)) → w'.heap[g]? = w.heap[g]?
theorem NoSt.of_below {w w' : World} (h : Below w.heap.size w w') : NoSt w w' := ⟨h.size, fun g hg _ => h.block g hg⟩
theorem NoSt.refl (w : World) : NoSt w w := ⟨Nat.le_refl _, fun _ _ _ => rfl⟩
theorem NoSt.trans {a b c : World} (h : NoSt a b) (k : NoSt b c) : NoSt a c :=
  ⟨Nat.le_trans h.1 k.1, fun g hg hn => by
    have e := h.2 g hg hn
    exact (k.2 g (Nat.lt_of_lt_of_le hg h.1) (fun cs fr => by rw [e]; exact hn cs fr)).trans e⟩
theorem NoSt.cells {w w' : World} (h : NoSt w w') {g : Nat} {cs : Array Value} {t : TypeId} {fr : Nat × Nat} (e : w.heap[g]? = some (.cells cs t fr)) (ht : t ≠ 50) : w'.heap[g]? = some (.cells cs t fr) :=
  (h.2 g (Array.getElem?_eq_some_iff.1 e).1 (fun cs' fr' e' => by rw [e] at e'; simp at e'; exact ht e'.2.1)).trans e
theorem NoSt.nmap {w w' : World} (h : NoSt w w') {m p : Nat} (e : NMap w m p) : NMap w' m p := by
  obtain ⟨es, c, h1, h2⟩ := e
  exact ⟨es, c, (h.2 m (Array.getElem?_eq_some_iff.1 h1).1 (fun cs' fr' e' => by rw [h1] at e'; cases e')).trans h1, h2⟩
theorem NoSt.dat {w w' : World} (h : NoSt w w') {g : Nat} {t : TypeId} {ds : List Int} (e : Dat w g t ds) (ht : t ≠ 50) : Dat w' g t ds := h.cells e ht
theorem NoSt.fresh {w w' : World} (h : NoSt w w') {B n f r m p d q : Nat} (e : Fresh B n w f r m p d q) : Fresh B n w' f r m p d q := by
  obtain ⟨c, h1⟩ := e.fst
  exact ⟨⟨c, h.cells h1 (by decide)⟩, h.cells e.root (by decide), h.nmap e.map, h.cells e.node (by decide), h.cells e.com (by decide), h.cells e.tab (by decide), e.hf, e.hr, e.hm, e.hq⟩

theorem infoStp : (Tryz.prog.info? 50).map (fun i => (i.zero, i.size, i.bytes)) = some (some (.agg #[.int .i64 0, .int .i64 0, .slice none 0 0]), 3, 40) := by kernel_rfl

/-- steps are appended -/
theorem wpList_appendSt {ops : Array Oper} {rest : List Oper} {o : Oper} {a : Act} {Q : Exit → Act → World → Prop} (hgd : o.guard = none) (s x : Operand)
    (ho : o.op = .call { callee := .builtin .append, args := #[s, x], argTypes := #[29, 29] })
    {base : Nat} {w0 : World} {v : Value} {n : Nat} {cs : List Value} (hown : StR base w0 v n cs) (hs : a.eval s = v) (ad : Addr) (m c : Nat) (hx : a.eval x = .slice (some ad) m c) (news : List Value) (hl : news.length = m * 3)
    (hnews : ∀ j u, news[j]? = some u → w0.cell? (ad.add j) = some u) (h1 : ∀ u ∈ news, u.oneCell' = true) (hlen : n + m ≤ 1000) (hb : base ≤ w0.heap.size)
    (h : ∀ v' w', StR base w' v' (n + m) (cs ++ news) → NoSt w0 w' → Below base w0 w' → wpList Tryz.prog ops Q rest (a.put o.dst v') w') :
    wpList Tryz.prog ops Q (o :: rest) a w0 := by
  obtain ⟨i0, hi, hzz⟩ := Option.map_eq_some_iff.1 infoStp
  simp only [Prod.mk.injEq] at hzz
  obtain ⟨hz0, hz1, hz2⟩ := hzz
  refine wpList_append_own _ hgd s x 29 ho base 50 i0 _ 3 40 Tryz.underlying29 hi hz0 hz1 hz2 rfl (by decide) v n cs hs hown ad m c news hx hl hnews h1 (by unfold maxLen; omega) (by omega) hb ?_
  intro v' w' h2 h3 _
  refine h v' w' h2 ⟨h3.size, fun g hg hn => h3.block g hg fun e => ?_⟩ ((Below.refl base w0).grown h3 hb fun k hk => ?_)
  · rcases hown.2 with ⟨hv, _⟩ | ⟨g', cap, cur, hv, _, hg', _⟩
    · rw [hv] at e; cases e
    · rw [hv] at e
      simp only [Value.ownBlock, Option.some.injEq] at e
      subst e
      exact hn _ _ hg'
  · exact (World.ownsRow.lt hown k hk).1

theorem StR.none (base : Nat) (w : World) : StR base w (.slice Option.none 0 0) 0 [] := World.ownsRow_nil _ _ _ _
/-- what lies elsewhere changes -/
theorem StR.below {base : Nat} {w w' : World} {v : Value} {n : Nat} {cs : List Value} (h : StR base w v n cs) (k : Below w.heap.size w w') : StR base w' v n cs := by
  refine ⟨h.1, ?_⟩
  rcases h.2 with hv | ⟨g, cap, cur, hv, h1, h2, h3⟩
  · exact .inl hv
  · exact .inr ⟨g, cap, cur, hv, h1, (k.block g (Array.getElem?_eq_some_iff.1 h2).1).trans h2, h3⟩

theorem makeTab (w : World) : (Instr.makeSlice 90 (.int .i64 1) (.int .i64 1)).run Tryz.prog w = .ok (.slice (some ⟨w.heap.size, 0, none⟩) 1 1) (w.alloc (.cells #[.int .i64 0, .slice none 0 0] 84)) := by kernel_rfl

set_option maxRecDepth 100000 in
set_option maxHeartbeats 4000000 in
theorem tables1 (da : Option Addr) (dn dc q : Nat) (ra : Addr) (c : Nat) (hc : 1 ≤ c) (w : World) :
    Calls Tryz.prog 38 #[.agg #[.slice da dn dc, .slice (some ⟨q, 0, none⟩) 1 1, .slice (some ra) 1 c]] w fun e w' => ∃ t, e = .returned (.slice (some ⟨t, 0, none⟩) 1 1) ∧ w'.heap[t]? = some (.cells #[.int .i64 0, .slice (some ra) 1 c] 84 (0, 0)) ∧ Below w.heap.size w w' := by
  have hmk := makeTab
  obtain ⟨W0, HW0⟩ : ∃ W0, Hid (W0 = w.alloc (.cells #[.slice da dn dc, .slice (some ⟨q, 0, none⟩) 1 1, .slice (some ra) 1 c] 75)) := ⟨_, rfl⟩
  have hb0 : Below w.heap.size w W0 := by rw [HW0.out]; exact belowA _ _
  have x1 : W0.cell? ⟨w.heap.size, 1, none⟩ = some (.slice (some ⟨q, 0, none⟩) 1 1) := by rw [HW0.out]; exact World.cell?_alloc_at _ _ _ _ rfl
  have x2 : W0.cell? ⟨w.heap.size, 2, none⟩ = some (.slice (some ra) 1 c) := by rw [HW0.out]; exact World.cell?_alloc_at _ _ _ _ rfl
  have hs0 : w.heap.size < W0.heap.size := World.block_lt_of_cell? _ _ x1
  obtain ⟨W1, HW1⟩ : ∃ W1, Hid (W1 = W0.alloc (.cells #[.int .i64 0, .slice none 0 0] 84)) := ⟨_, rfl⟩
  have hb1 : Below W0.heap.size W0 W1 := by rw [HW1.out]; exact belowA _ _
  have hT1 : W1.heap[W0.heap.size]? = some (.cells #[.int .i64 0, .slice none 0 0] 84 (0, 0)) := by rw [HW1.out]; exact heap_alloc_new _ _
  have y2 : W1.cell? ⟨w.heap.size, 2, none⟩ = some (.slice (some ra) 1 c) := (hb1.cell (p := ⟨w.heap.size, 2, none⟩) hs0).trans x2
  have t1 : W1.cell? ⟨W0.heap.size, 1, none⟩ = some (.slice none 0 0) := by simp [World.cell?, hT1]
  have tf : W1.frozen? ⟨W0.heap.size, 1, none⟩ = false := frozen_of_row W1 _ _ _ _ hT1
  have hT2 := heap_setCell_same W1 W0.heap.size 1 _ _ (.slice (some ra) 1 c) hT1
  have HT2 : Hid ((W1.setCell ⟨W0.heap.size, 1, none⟩ (.slice (some ra) 1 c)).heap[W0.heap.size]? = some (.cells #[.int .i64 0, .slice (some ra) 1 c] 84 (0, 0))) := hT2
  have HB2 : Hid (Below w.heap.size w (W1.setCell ⟨W0.heap.size, 1, none⟩ (.slice (some ra) 1 c))) := (hb0.trans (hb1.mono (Nat.le_of_lt hs0))).setCell (p := ⟨W0.heap.size, 1, none⟩) (Nat.le_of_lt hs0) _
  clear hb0 hb1 hT1 hT2
  go_enter Tryz.func38, Tryz.ntmps38
  go_upto_region 1 with fail
  rw [← HW0.out]
  go_upto_region 2 with fail
  rw [← HW1.out]
  clear hmk x1 x2
  go_wp2_with fail
  go_loopw [11] (fun i wr => ∃ k : Nat, k ≤ 1 ∧ i = .int .i64 k ∧ wr = (if k = 0 then W1 else W1.setCell ⟨W0.heap.size, 1, none⟩ (.slice (some ra) 1 c))) (fun i _ => 1 - (intOf i).toNat)
  case atStart => exact ⟨0, by omega, rfl, rfl⟩
  case round =>
    obtain ⟨k, hk, rfl, hw⟩ := hrel
    by_cases h0 : k = 0
    · subst h0
      rw [if_pos rfl] at hw
      subst hw
      go_wp2_with (go_at_call 54; refine (runsFor1 ra c hc _).mono ?_; rintro e w3 ⟨rfl, rfl⟩)
      go_roundw
      case rel => exact ⟨1, by omega, by go_num, rfl⟩
      case measure => simp [intOf]
    · obtain rfl : k = 1 := by omega
      rw [if_neg (by omega)] at hw
      subst hw
      clear t1 tf y2
      go_wp2_with fail
      go_ret
      exact ⟨_, rfl, HT2.out, HB2.out⟩

theorem cellDrew (X : World) (p : Addr) : X.drew.cell? p = X.cell? p := rfl
theorem far5 {W : World} {g k : Nat} (h : k ≠ g) (i : Nat) (a b c d e : Value) : (((((W.setCell ⟨g, 0, none⟩ a).setCell ⟨g, 1, none⟩ b).setCell ⟨g, 2, none⟩ c).setCell ⟨g, 3, none⟩ d).setCell ⟨g, 4, none⟩ e).cell? ⟨k, i, none⟩ = W.cell? ⟨k, i, none⟩ := by
  rw [World.cell?_setCell_other _ _ _ _ (by intro hh; simp only [Addr.mk.injEq] at hh; omega), World.cell?_setCell_other _ _ _ _ (by intro hh; simp only [Addr.mk.injEq] at hh; omega), World.cell?_setCell_other _ _ _ _ (by intro hh; simp only [Addr.mk.injEq] at hh; omega), World.cell?_setCell_other _ _ _ _ (by intro hh; simp only [Addr.mk.injEq] at hh; omega), World.cell?_setCell_other _ _ _ _ (by intro hh; simp only [Addr.mk.injEq] at hh; omega)]
theorem keep6 {W : World} {g f q : Nat} {v0 v1 v2 v4 v6 v7 a b c d e : Value} (h1 : f ≠ g) (h2 : q ≠ g) (h : W.cell? ⟨f, 0, none⟩ = some v0 ∧ W.cell? ⟨f, 1, none⟩ = some v1 ∧ W.cell? ⟨f, 2, none⟩ = some v2 ∧ W.cell? ⟨f, 4, none⟩ = some v4 ∧ W.cell? ⟨f, 6, none⟩ = some v6 ∧ W.cell? ⟨q, 0, none⟩ = some v7) : (((((W.setCell ⟨g, 0, none⟩ a).setCell ⟨g, 1, none⟩ b).setCell ⟨g, 2, none⟩ c).setCell ⟨g, 3, none⟩ d).setCell ⟨g, 4, none⟩ e).cell? ⟨f, 0, none⟩ = some v0 ∧ (((((W.setCell ⟨g, 0, none⟩ a).setCell ⟨g, 1, none⟩ b).setCell ⟨g, 2, none⟩ c).setCell ⟨g, 3, none⟩ d).setCell ⟨g, 4, none⟩ e).cell? ⟨f, 1, none⟩ = some v1 ∧ (((((W.setCell ⟨g, 0, none⟩ a).setCell ⟨g, 1, none⟩ b).setCell ⟨g, 2, none⟩ c).setCell ⟨g, 3, none⟩ d).setCell ⟨g, 4, none⟩ e).cell? ⟨f, 2, none⟩ = some v2 ∧ (((((W.setCell ⟨g, 0, none⟩ a).setCell ⟨g, 1, none⟩ b).setCell ⟨g, 2, none⟩ c).setCell ⟨g, 3, none⟩ d).setCell ⟨g, 4, none⟩ e).cell? ⟨f, 4, none⟩ = some v4 ∧ (((((W.setCell ⟨g, 0, none⟩ a).setCell ⟨g, 1, none⟩ b).setCell ⟨g, 2, none⟩ c).setCell ⟨g, 3, none⟩ d).setCell ⟨g, 4, none⟩ e).cell? ⟨f, 6, none⟩ = some v6 ∧ (((((W.setCell ⟨g, 0, none⟩ a).setCell ⟨g, 1, none⟩ b).setCell ⟨g, 2, none⟩ c).setCell ⟨g, 3, none⟩ d).setCell ⟨g, 4, none⟩ e).cell? ⟨q, 0, none⟩ = some v7 := by
  rw [far5 h1, far5 h1, far5 h1, far5 h1, far5 h1, far5 h2]; exact h
theorem keep6a {W : World} {g f q : Nat} {v0 v1 v2 v4 v6 v7 a b c d e : Value} (h1 : f ≠ g) (h2 : q ≠ g) (h : W.cell? ⟨f, 0, none⟩ = some v0 ∧ W.cell? ⟨f, 1, none⟩ = some v1 ∧ W.cell? ⟨f, 2, none⟩ = some v2 ∧ W.cell? ⟨f, 4, none⟩ = some v4 ∧ W.cell? ⟨f, 6, none⟩ = some v6 ∧ W.cell? ⟨q, 0, none⟩ = some v7) : (((((W.setCell ⟨g, 0, none⟩ a).setCell ⟨g, 1, none⟩ b).setCell ⟨g, 2, none⟩ c).setCell ⟨g, 3, none⟩ d).setCell ⟨g, 4, none⟩ e).drew.cell? ⟨f, 0, none⟩ = some v0 ∧ (((((W.setCell ⟨g, 0, none⟩ a).setCell ⟨g, 1, none⟩ b).setCell ⟨g, 2, none⟩ c).setCell ⟨g, 3, none⟩ d).setCell ⟨g, 4, none⟩ e).drew.cell? ⟨f, 1, none⟩ = some v1 ∧ (((((W.setCell ⟨g, 0, none⟩ a).setCell ⟨g, 1, none⟩ b).setCell ⟨g, 2, none⟩ c).setCell ⟨g, 3, none⟩ d).setCell ⟨g, 4, none⟩ e).drew.cell? ⟨f, 2, none⟩ = some v2 ∧ (((((W.setCell ⟨g, 0, none⟩ a).setCell ⟨g, 1, none⟩ b).setCell ⟨g, 2, none⟩ c).setCell ⟨g, 3, none⟩ d).setCell ⟨g, 4, none⟩ e).drew.cell? ⟨f, 4, none⟩ = some v4 ∧ (((((W.setCell ⟨g, 0, none⟩ a).setCell ⟨g, 1, none⟩ b).setCell ⟨g, 2, none⟩ c).setCell ⟨g, 3, none⟩ d).setCell ⟨g, 4, none⟩ e).drew.cell? ⟨f, 6, none⟩ = some v6 ∧ (((((W.setCell ⟨g, 0, none⟩ a).setCell ⟨g, 1, none⟩ b).setCell ⟨g, 2, none⟩ c).setCell ⟨g, 3, none⟩ d).setCell ⟨g, 4, none⟩ e).drew.cell? ⟨q, 0, none⟩ = some v7 := by
  simp only [cellDrew]; exact keep6 h1 h2 h

set_option maxRecDepth 100000 in
set_option maxHeartbeats 4000000 in
theorem superblock1 {B n : Nat} {w : World} {f r m p d q : Nat} (h : Fresh B n w f r m p d q) :
    Calls Tryz.prog 41 #[.pointer (some ⟨f, 0, none⟩)] w fun e w' => e = .returned (.agg #[.int .i64 n, .int .i64 1, .int .i64 1, .int .i64 3, .slice (some ⟨r, 0, none⟩) 1 1]) ∧ Below w.heap.size w w' := by
  obtain ⟨c, hF⟩ := h.fst
  have hQ := h.tab
  have hfl : f < w.heap.size := (Array.getElem?_eq_some_iff.1 hF).1
  have hql : q < w.heap.size := (Array.getElem?_eq_some_iff.1 hQ).1
  obtain ⟨W0, HW0⟩ : ∃ W0, Hid (W0 = w.alloc (.cells #[.int .i64 0, .int .i64 0, .int .i64 0, .int .i64 0, .slice none 0 0] 87)) := ⟨_, rfl⟩
  have hb0 : Below w.heap.size w W0 := by rw [HW0.out]; exact belowA _ _
  have hX0 : W0.heap[w.heap.size]? = some (.cells #[.int .i64 0, .int .i64 0, .int .i64 0, .int .i64 0, .slice none 0 0] 87 (0, 0)) := by rw [HW0.out]; exact heap_alloc_new _ _
  have hF0 := (hb0.block f hfl).trans hF
  have hQ0 := (hb0.block q hql).trans hQ
  have c0 : W0.cell? ⟨f, 0, none⟩ = some (.slice (some ⟨r, 0, none⟩) 1 1) := by simp [World.cell?, hF0]
  have c1 : W0.cell? ⟨f, 1, none⟩ = some (.int .i64 1) := by simp [World.cell?, hF0]
  have c2 : W0.cell? ⟨f, 2, none⟩ = some (.int .i64 1) := by simp [World.cell?, hF0]
  have c4 : W0.cell? ⟨f, 4, none⟩ = some (.slice (some ⟨c, 0, none⟩) n n) := by simp [World.cell?, hF0]
  have c6 : W0.cell? ⟨f, 6, none⟩ = some (.slice (some ⟨q, 0, none⟩) 1 1) := by simp [World.cell?, hF0]
  have cq : W0.cell? ⟨q, 0, none⟩ = some (.int .i64 3) := by simp [World.cell?, hQ0]
  have z0 : W0.cell? ⟨w.heap.size, 0, none⟩ = some (.int .i64 0) := by simp [World.cell?, hX0]
  have z1 : W0.cell? ⟨w.heap.size, 1, none⟩ = some (.int .i64 0) := by simp [World.cell?, hX0]
  have z2 : W0.cell? ⟨w.heap.size, 2, none⟩ = some (.int .i64 0) := by simp [World.cell?, hX0]
  have z3 : W0.cell? ⟨w.heap.size, 3, none⟩ = some (.int .i64 0) := by simp [World.cell?, hX0]
  have z4 : W0.cell? ⟨w.heap.size, 4, none⟩ = some (.slice none 0 0) := by simp [World.cell?, hX0]
  have zf : ∀ i, W0.frozen? ⟨w.heap.size, i, none⟩ = false := fun i => frozen_of_row W0 _ _ _ _ hX0
  have hne1 : f ≠ w.heap.size := by omega
  have hne2 : q ≠ w.heap.size := by omega
  have HB0 : Hid (Below w.heap.size w W0) := hb0
  have hend : ∀ (W : World), Below w.heap.size w W → ∀ z0 z1 z2 z3 z4 : Value, Below w.heap.size w (((((W.setCell ⟨w.heap.size, 0, none⟩ z0).setCell ⟨w.heap.size, 1, none⟩ z1).setCell ⟨w.heap.size, 2, none⟩ z2).setCell ⟨w.heap.size, 3, none⟩ z3).setCell ⟨w.heap.size, 4, none⟩ z4) := fun W h z0 z1 z2 z3 z4 =>
    have p0 : w.heap.size ≤ w.heap.size := Nat.le_refl _
    ((((h.setCell (p := ⟨w.heap.size, 0, none⟩) p0 z0).setCell (p := ⟨w.heap.size, 1, none⟩) p0 z1).setCell (p := ⟨w.heap.size, 2, none⟩) p0 z2).setCell (p := ⟨w.heap.size, 3, none⟩) p0 z3).setCell (p := ⟨w.heap.size, 4, none⟩) p0 z4
  clear hb0 hX0 hF0 hQ0 hF hQ h
  go_enter Tryz.func41, Tryz.ntmps41
  go_upto_region 1 with fail
  rw [← HW0.out]
  go_region_held3 (fun w' => w'.cell? ⟨f, 0, none⟩ = some (.slice (some ⟨r, 0, none⟩) 1 1) ∧ w'.cell? ⟨f, 1, none⟩ = some (.int .i64 1) ∧ w'.cell? ⟨f, 2, none⟩ = some (.int .i64 1) ∧ w'.cell? ⟨f, 4, none⟩ = some (.slice (some ⟨c, 0, none⟩) n n) ∧ w'.cell? ⟨f, 6, none⟩ = some (.slice (some ⟨q, 0, none⟩) 1 1) ∧ w'.cell? ⟨q, 0, none⟩ = some (.int .i64 3)) (first | (with_reducible exact keep6a hne1 hne2 ⟨c0, c1, c2, c4, c6, cq⟩) | (dsimp only; with_reducible exact keep6a hne1 hne2 ⟨c0, c1, c2, c4, c6, cq⟩) | go_keep | assumption) ((fail))
  go_wp2_with fail
  exact bodyPost_ret (v := .agg #[.int .i64 n, .int .i64 1, .int .i64 1, .int .i64 3, .slice (some ⟨r, 0, none⟩) 1 1]) (by simp [results, Tryz.results41, go_sem, z0, z1, z2, z3, z4]) rfl ⟨rfl, hend _ HB0.out.drew _ _ _ _ _⟩

end Go.Proofs.YtpjdhfbeofdplaaGreatDoor

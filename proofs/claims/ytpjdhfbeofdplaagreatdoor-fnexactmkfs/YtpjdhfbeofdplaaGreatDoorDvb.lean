import Derived.Test.YtpjdhfbeofdplaaGreatDoorDva
namespace Go.Proofs.YtpjdhfbeofdplaaGreatDoor
open Go.RowKit
set_option linter.unusedVariables false


/-- w' is w but for the blocks in S -/
structure Frm (S : Nat → Prop) (w w' : World) : Prop where
  os : w'.os = w.os
  tape : w'.tape = w.tape
  output : w'.output = w.output
  size : w.heap.size ≤ w'.heap.size
  block : ∀ k, k < w.heap.size → ¬ S k → w'.heap[k]? = w.heap[k]?

theorem Frm.refl (S : Nat → Prop) (w : World) : Frm S w w := ⟨rfl, rfl, rfl, Nat.le_refl _, fun _ _ _ => rfl⟩

theorem Frm.trans {S : Nat → Prop} {a b c : World} (h : Frm S a b) (k : Frm S b c) : Frm S a c :=
  ⟨k.os.trans h.os, k.tape.trans h.tape, k.output.trans h.output, Nat.le_trans h.size k.size, fun i hi hn => (k.block i (Nat.lt_of_lt_of_le hi h.size) hn).trans (h.block i hi hn)⟩

theorem Frm.of_below {S : Nat → Prop} {w w' : World} (h : Below w.heap.size w w') : Frm S w w' := ⟨h.os, h.tape, h.output, h.size, fun k hk _ => h.block k hk⟩

theorem Frm.below {S : Nat → Prop} {w w' : World} {B : Nat} (h : Frm S w w') (hB : B ≤ w.heap.size) (hS : ∀ k, S k → B ≤ k) : Below B w w' :=
  ⟨h.os, h.tape, h.output, h.size, fun k hk => h.block k (by omega) (fun hs => by have := hS k hs; omega)⟩

theorem Frm.setCell {S : Nat → Prop} {a w : World} (h : Frm S a w) {p : Addr} (hp : S p.block) (u : Value) : Frm S a (w.setCell p u) :=
  h.trans ⟨rfl, rfl, rfl, by simp, fun k _ hn => Below.heap_setCell w p u k (fun e => hn (e ▸ hp))⟩

theorem Frm.wider {S S' : Nat → Prop} {w w' : World} (h : Frm S w w') (hs : ∀ k, S k → S' k) : Frm S' w w' := ⟨h.os, h.tape, h.output, h.size, fun k hk hn => h.block k hk (fun e => hn (hs k e))⟩

/-- a row of the call's own, written out: the value leads to the head of block g -/
structure RowAt (w : World) (g : Nat) (v : Value) (zs : List Int) : Prop where
  shape : ∃ cap cur, v = .slice (some ⟨g, 0, none⟩) zs.length cap ∧ w.heap[g]? = some (.cells cur 5 (0, 0)) ∧ zs.length ≤ cap ∧ cap ≤ maxLen ∧ cur.size = cap ∧ cur.toList.take zs.length = zs.map (Value.int .u8)
  small : ∀ i, 0 ≤ zs.getD i 0 ∧ zs.getD i 0 < 256

theorem RowAt.lt {w : World} {g : Nat} {v : Value} {zs : List Int} (h : RowAt w g v zs) : g < w.heap.size := by
  obtain ⟨_, _, _, hg, _⟩ := h.shape
  by_cases hh : g < w.heap.size
  · exact hh
  · simp [show w.heap.size ≤ g by omega] at hg

theorem RowAt.block {w w' : World} {g : Nat} {v : Value} {zs : List Int} (h : RowAt w g v zs) (hb : w'.heap[g]? = w.heap[g]?) : RowAt w' g v zs := by
  obtain ⟨cap, cur, h1, h2, h3⟩ := h.shape
  exact ⟨⟨cap, cur, h1, hb.trans h2, h3⟩, h.small⟩

theorem RowAt.below {w w' : World} {g : Nat} {v : Value} {zs : List Int} (h : RowAt w g v zs) (k : Below w.heap.size w w') : RowAt w' g v zs := h.block (k.block g h.lt)

theorem RowAt.own {w : World} {g : Nat} {v : Value} {zs : List Int} (h : RowAt w g v zs) : Own8 g (g + 1) w v zs := by
  have hlt := h.lt
  obtain ⟨cap, cur, rfl, h2, h3, h4, h5, h6⟩ := h.shape
  refine ⟨h.small, _, cap, rfl, fun hp => ⟨g, 0, rfl, Nat.le_refl _, Nat.lt_succ_self _, hlt, fun i hi => ?_⟩⟩
  rw [Nat.zero_add, cell_of_row w g i cur _ (0, 0) h2]
  refine ⟨?_, frozen_of_row w g i cur _ h2⟩
  have e : (cur.toList.take zs.length)[i]? = (zs.map (Value.int .u8))[i]? := by rw [h6]
  rw [List.getElem?_take, if_pos hi] at e
  simp only [Array.getElem?_toList] at e
  rw [e]; simp [hi]

theorem RowAt.of_row {base : Nat} {w : World} {v : Value} {zs : List Int} (h : Row8 base w v zs) (hz : ∀ i, 0 ≤ zs.getD i 0 ∧ zs.getD i 0 < 256) (hp : 0 < zs.length) : ∃ g, base ≤ g ∧ RowAt w g v zs := by
  rcases h.2 with ⟨hv, hn⟩ | ⟨g, cap, cur, hv, hbg, hg, hnc, hcm, hcs, htake⟩
  · omega
  · refine ⟨g, hbg, ⟨cap, cur, hv, hg, hnc, hcm, by omega, by rw [Nat.mul_one] at htake; exact htake⟩, hz⟩

/-- 'append(out, src...)' of bytes -/
theorem wpList_append8s {ops : Array Oper} {rest : List Oper} {o : Oper} {a : Act} {w : World} {Q : Exit → Act → World → Prop} (hgd : o.guard = none) (s x : Operand)
    (ho : o.op = .call { callee := .builtin .append, args := #[s, x], argTypes := #[22, 22] })
    {base : Nat} {v : Value} {zs ys : List Int} (hown : Row8 base w v zs) {ad : Addr} {n c : Nat} (hn : ys.length = n) (hsrc : ∀ i, i < n → w.cell? (ad.add i) = some (.int .u8 (ys.getD i 0))) (hs : a.eval s = v) (hx : a.eval x = .slice (some ad) n c)
    (hlen : zs.length + n < 140737488355328) (hb : base ≤ w.heap.size)
    (h : ∀ v' w', Row8 base w' v' (zs ++ ys) → Below base w w' → wpList Tryz.prog ops Q rest (a.put o.dst v') w') :
    wpList Tryz.prog ops Q (o :: rest) a w := by
  obtain ⟨i0, hi, hz0, hz1, hz2⟩ := info_parts info8
  refine wpList_append_own _ hgd s x 22 ho base 5 i0 (.int .u8 0) 1 1 Tryz.underlying22 hi hz0 hz1 hz2 rfl (by decide) v _ _ hs hown ad n c (ys.map (Value.int .u8)) hx (by simp [hn]) ?_ ?_ ?_ ?_ hb ?_
  · intro j u hj
    have hjl : j < ys.length := by
      by_cases hh : j < ys.length
      · exact hh
      · simp [show ys.length ≤ j by omega] at hj
    rw [hsrc j (by omega)]
    simp only [List.getElem?_map, List.getElem?_eq_getElem hjl, Option.map_some, Option.some.injEq] at hj
    rw [← hj]; simp [hjl]
  · intro u hu
    simp only [List.mem_map] at hu
    obtain ⟨z, _, rfl⟩ := hu
    rfl
  · unfold maxLen; omega
  · omega
  · intro v' w' h1 h2 _
    refine h v' w' ?_ ((Below.refl base w).grown h2 hb (fun k hk => (hown.lt k hk).1))
    unfold Row8
    simpa [hn] using h1

set_option maxRecDepth 100000 in
set_option maxHeartbeats 1000000 in
theorem clone_any (b off n cap : Nat) (zs : List Int) (w : World) (hz : zs.length = n) (hp : 0 < n) (hn : n ≤ 1048576) (hv : Bts w (.slice (some ⟨b, off, none⟩) n cap) zs) :
    Calls Tryz.prog 43 #[.slice (some ⟨b, off, none⟩) n cap] w fun e w' => ∃ v g, e = .returned v ∧ w.heap.size ≤ g ∧ RowAt w' g v zs ∧ Below w.heap.size w w' := by
  have hnil := fun w => Lib.run_eql_slice_nil (P := Tryz.prog) w 22 5 (some ⟨b, off, none⟩) n cap 0 0 Tryz.underlying22
  have hsh := hv.shape
  obtain ⟨_, _, he, hc⟩ := hsh
  simp only [Value.slice.injEq] at he
  obtain ⟨rfl, -, rfl⟩ := he
  obtain ⟨_, _, he, hcell⟩ := hc (by omega)
  simp only [Option.some.injEq, Addr.mk.injEq, and_true] at he
  obtain ⟨rfl, rfl⟩ := he
  have hrow := Row8.lit w.heap.size w (Nat.le_refl _) w.heap.size rfl
  have hsrc : ∀ i, i < n → (w.alloc (.cells #[] 5)).cell? ((⟨b, off, none⟩ : Addr).add i) = some (.int .u8 (zs.getD i 0)) := fun i hi => by
    rw [Addr.add_mid, World.cell?_alloc_past _ _ _ (World.block_lt_of_cell? _ _ (hcell i (by omega)))]
    exact hcell i (by omega)
  have hsm := hv.small
  have hbA := belowA w (.cells #[] 5)
  clear hc hcell hv
  go_enter Tryz.func43, Tryz.ntmps43
  go_wp2_with (at_builtin; refine wpList_append8s rfl _ _ rfl hrow hz hsrc rfl rfl (by simp; omega) (by simp) ?_; intro v' w1 hown1 hbel1)
  go_ret
  rw [List.nil_append] at hown1
  obtain ⟨g, h1, h2⟩ := RowAt.of_row hown1 hsm (by omega)
  exact ⟨v', g, rfl, h1, h2, hbA.trans hbel1⟩


theorem RowAt.form {w : World} {g : Nat} {v : Value} {zs : List Int} (h : RowAt w g v zs) : ∃ cap, v = .slice (some ⟨g, 0, none⟩) zs.length cap ∧ zs.length ≤ cap := by
  obtain ⟨cap, _, h1, _, h2, _⟩ := h.shape
  exact ⟨cap, h1, h2⟩

theorem elem_after {wr w1 : World} {x y : Value} {t : TypeId} (h : Below (wr.alloc (.cells #[x, y] t)).drew.heap.size (wr.alloc (.cells #[x, y] t)).drew w1) :
    (w1.cell? ⟨wr.heap.size, 0, none⟩ = some x ∧ w1.cell? ⟨wr.heap.size, 1, none⟩ = some y) ∧ Below wr.heap.size wr w1 := by
  have hs : (wr.alloc (.cells #[x, y] t)).drew.heap.size = wr.heap.size + 1 := by simp
  refine ⟨⟨?_, ?_⟩, (belowA wr _).drew.trans (h.mono (by omega))⟩
  · rw [h.cell (p := ⟨wr.heap.size, 0, none⟩) (by show wr.heap.size < _; omega)]; exact World.cell?_alloc_at _ _ _ _ rfl
  · rw [h.cell (p := ⟨wr.heap.size, 1, none⟩) (by show wr.heap.size < _; omega)]; exact World.cell?_alloc_at _ _ _ _ rfl

theorem elem_stored {w1 : World} {h g j k : Nat} {x y : Value} (hq : w1.cell? ⟨h, 0, none⟩ = some x ∧ w1.cell? ⟨h, 1, none⟩ = some y) (hg : g < h) (u v : Value) :
    ((w1.setCell ⟨g, j, none⟩ u).setCell ⟨g, k, none⟩ v).cell? ⟨h, 0, none⟩ = some x ∧ ((w1.setCell ⟨g, j, none⟩ u).setCell ⟨g, k, none⟩ v).cell? ⟨h, 1, none⟩ = some y := by
  constructor
  · rw [World.cell?_setCell_other _ _ _ _ (by intro hh; simp only [Addr.mk.injEq] at hh; omega), World.cell?_setCell_other _ _ _ _ (by intro hh; simp only [Addr.mk.injEq] at hh; omega)]; exact hq.1
  · rw [World.cell?_setCell_other _ _ _ _ (by intro hh; simp only [Addr.mk.injEq] at hh; omega), World.cell?_setCell_other _ _ _ _ (by intro hh; simp only [Addr.mk.injEq] at hh; omega)]; exact hq.2

theorem box_after {w w1 : World} {g : Nat} {x0 x1 x2 : Value} {t : TypeId} (hX : Box3 w g x0 x1 x2 t) (hb : Below w.drew.heap.size w.drew w1) : w1.cell? ⟨g, 0, none⟩ = some x0 ∧ w1.cell? ⟨g, 1, none⟩ = some x1 := by
  have h1 := (Box3.below (w := w.drew) hX hb).cells
  exact ⟨h1.1, h1.2.1⟩

theorem box_stored {w1 : World} {h : Nat} {x y : Value} (hq : w1.cell? ⟨h, 0, none⟩ = some x ∧ w1.cell? ⟨h, 1, none⟩ = some y) (u v z : Value) :
    (((w1.setCell ⟨h + 1, 0, none⟩ u).setCell ⟨h + 1, 1, none⟩ v).setCell ⟨h + 1, 2, none⟩ z).cell? ⟨h, 0, none⟩ = some x ∧ (((w1.setCell ⟨h + 1, 0, none⟩ u).setCell ⟨h + 1, 1, none⟩ v).setCell ⟨h + 1, 2, none⟩ z).cell? ⟨h, 1, none⟩ = some y := by
  constructor
  · rw [World.cell?_setCell_other _ _ _ _ (by simp), World.cell?_setCell_other _ _ _ _ (by simp), World.cell?_setCell_other _ _ _ _ (by simp)]; exact hq.1
  · rw [World.cell?_setCell_other _ _ _ _ (by simp), World.cell?_setCell_other _ _ _ _ (by simp), World.cell?_setCell_other _ _ _ _ (by simp)]; exact hq.2

theorem fresh_end {w w1 : World} {g g0 : Nat} {u v : Value} {zs : List Int} {ps : List (Int × List Int)} (hb : Below w.heap.size w w1) (h2 : RowAt w1 g u zs) (hO : POwn g0 g w1 v ps) (h3 : w.heap.size + 1 < g0) (h4 : g0 ≤ g) (x y z : Value) :
    RowAt (((w1.setCell ⟨w.heap.size + 1, 0, none⟩ x).setCell ⟨w.heap.size + 1, 1, none⟩ y).setCell ⟨w.heap.size + 1, 2, none⟩ z) g u zs ∧ POwn g0 g (((w1.setCell ⟨w.heap.size + 1, 0, none⟩ x).setCell ⟨w.heap.size + 1, 1, none⟩ y).setCell ⟨w.heap.size + 1, 2, none⟩ z) v ps ∧
      Below w.heap.size w (((w1.setCell ⟨w.heap.size + 1, 0, none⟩ x).setCell ⟨w.heap.size + 1, 1, none⟩ y).setCell ⟨w.heap.size + 1, 2, none⟩ z) := by
  have u1 : Upd (w.heap.size + 1) (w.heap.size + 2) w1 (w1.setCell ⟨w.heap.size + 1, 0, none⟩ x) := (Upd.refl _ _ _).setCell (p := ⟨w.heap.size + 1, 0, none⟩) (Nat.le_refl _) (Nat.lt_succ_self _) x
  have u2 := u1.setCell (p := ⟨w.heap.size + 1, 1, none⟩) (Nat.le_refl _) (Nat.lt_succ_self _) y
  have u3 := u2.setCell (p := ⟨w.heap.size + 1, 2, none⟩) (Nat.le_refl _) (Nat.lt_succ_self _) z
  exact ⟨h2.block (u3.block g h2.lt (by omega)), hO.upd u3 (by omega), hb.trans (u3.below (by omega) hb.size)⟩

theorem spine_stored {w1 : World} {b g n : Nat} {t : TypeId} (h : ∃ cur, w1.heap[g]? = some (.cells cur t (0, 0)) ∧ cur.size = n) (hne : g ≠ b) (x y z : Value) :
    ∃ cur, (((w1.setCell ⟨b, 0, none⟩ x).setCell ⟨b, 1, none⟩ y).setCell ⟨b, 2, none⟩ z).heap[g]? = some (.cells cur t (0, 0)) ∧ cur.size = n := by
  obtain ⟨cur, h1, h2⟩ := h
  exact ⟨cur, ((Below.heap_setCell _ _ _ _ hne).trans ((Below.heap_setCell _ _ _ _ hne).trans (Below.heap_setCell _ _ _ _ hne))).trans h1, h2⟩

set_option maxRecDepth 100000 in
set_option maxHeartbeats 4000000 in
theorem fresh_row (B : Int) (da ca : Option Addr) (dc cc : Nat) (zs : List Int) (ps : List (Int × List Int)) (w : World) (h : DRead w (.agg #[.int .i64 B, .slice da zs.length dc, .slice ca ps.length cc]) B zs ps) (hok : dOK B zs ps = true) :
    Calls Tryz.prog 31 #[.agg #[.int .i64 B, .slice da zs.length dc, .slice ca ps.length cc]] w fun e w' => ∃ u g g0, e = .returned (.agg #[.int .i64 B, u, .slice (some ⟨g0, 0, none⟩) ps.length ps.length]) ∧ w.heap.size ≤ g0 ∧ g0 < g ∧ RowAt w' g u zs ∧ POwn g0 g w' (.slice (some ⟨g0, 0, none⟩) ps.length ps.length) ps ∧ Below w.heap.size w w' ∧ ∃ cur, w'.heap[g0]? = some (.cells cur 63 (0, 0)) ∧ cur.size = ps.length * 2 := by
  obtain ⟨hB1, hB2, hzl, hpl, hel⟩ := dOK_out hok
  obtain ⟨_, _, _, _, he, k1, k2⟩ := h
  simp only [Value.agg.injEq, Array.mk.injEq, List.cons.injEq, Value.slice.injEq, true_and, and_true] at he
  obtain ⟨⟨rfl, rfl⟩, rfl, rfl⟩ := he
  have hzl' : zs.length ≤ 1048576 := by omega
  have hzp : 0 < zs.length := by omega
  have hb0 := belowA w (.cells #[.int .i64 B, .slice da zs.length dc, .slice ca ps.length cc] 35)
  have hmk := fun w => make_pend ps.length (by omega) w
  obtain ⟨cur, hcs, hmk1⟩ := hmk ((w.alloc (.cells #[.int .i64 B, .slice da zs.length dc, .slice ca ps.length cc] 35)).alloc (.cells #[.int .i64 0, .slice none 0 0, .slice none 0 0] 35))
  clear hzl hmk
  go_enter Tryz.func31, Tryz.ntmps31
  go_wp2
  obtain ⟨W2, hW2⟩ : ∃ W2, W2 = ((w.alloc (.cells #[.int .i64 B, .slice da zs.length dc, .slice ca ps.length cc] 35)).alloc (.cells #[.int .i64 0, .slice none 0 0, .slice none 0 0] 35)) := ⟨_, rfl⟩
  have hs2 : W2.heap.size = w.heap.size + 1 + 1 := by rw [hW2]; simp
  have hX2 : Box3 W2 w.heap.size (.int .i64 B) (.slice da zs.length dc) (.slice ca ps.length cc) 35 := by rw [hW2]; exact (Box3.made _ _ _ _ _ _ rfl).alloc _
  have hY2 : Box3 W2 (w.heap.size + 1) (.int .i64 0) (.slice none 0 0) (.slice none 0 0) 35 := by rw [hW2]; exact Box3.made _ _ _ _ _ _ (by simp)
  have hbel2 : Below w.heap.size w W2 := by rw [hW2]; exact hb0.trans ((belowA _ _).mono hb0.size)
  have hT : PTo W2 (W2.alloc (.cells cur 63)) (w.heap.size + 1 + 1) ps (fun _ => 0) 0 := by rw [← hs2]; exact PTo.start W2 ps cur hcs
  rw [← hW2]
  have k3 := k2.below hbel2
  obtain ⟨_, _, he, hpc⟩ := k3
  simp only [Value.slice.injEq, true_and] at he
  obtain ⟨rfl, rfl⟩ := he
  have HS2 : Hid (W2.heap.size = w.heap.size + 1 + 1) := hs2
  clear hW2 hmk1 hcs hs2 hb0
  go_loopw [4, 5, 13] (fun _ _ i wr => ∃ k : Nat, k ≤ ps.length ∧ i = .int .i64 k ∧ ∃ g, PTo W2 wr (w.heap.size + 1 + 1) ps g k) (fun _ _ i _ => ps.length - (intOf i).toNat)
  case atStart => exact ⟨0, Nat.zero_le _, rfl, _, hT⟩
  case round =>
    obtain ⟨k, hk, rfl, g, hP⟩ := hrel
    clear hT
    by_cases hlt : k < ps.length
    · obtain ⟨b, off, rfl, hcell⟩ := hpc (by omega)
      obtain ⟨ea, ec, g1, g2, g3⟩ := hcell k hlt
      have hbw := World.block_lt_of_cell? _ _ g1
      have hpk := of_decide_eq_true (hel k hlt)
      rw [← hP.below.cell (p := ⟨b, off + k * 2, none⟩) hbw] at g1
      rw [← hP.below.cell (p := ⟨b, off + k * 2 + 1, none⟩) hbw] at g2
      have g4 := g3.below hP.below
      have HST := fun w1 hb g1 (dc : Nat) h1 h2 => (show Hid _ from hP.step (w1 := w1) (g1 := g1) (dc := dc) hlt hb h1 h2)
      have hcl := fun w1 hb => (⟨hP.cell (w1 := w1) hb (k * 2) (by omega), hP.cell (w1 := w1) hb (k * 2 + 1) (by omega)⟩ : _ ∧ _)
      have hg0 := hP.lt
      clear hcell g3
      generalize ps.getD k (0, []) = p at g1 g2 g4 hpk HST
      obtain ⟨r, ds⟩ := p
      simp only at g1 g2 g4 hpk
      obtain ⟨-, -, hdl⟩ := hpk
      have hdl' := hdl
      rw [hdl] at g2
      have hki : (k : Int) < (ps.length : Int) := by omega
      have hki0 : (0 : Int) ≤ (k : Int) := by omega
      have hbE := belowA wr (.cells #[.int .i64 r, .slice ea 128 ec] 63)
      have g5 := g4.below hbE
      rw [hdl] at g5
      have hsh := g5.shape
      obtain ⟨_, _, he, hx⟩ := hsh
      simp only [Value.slice.injEq] at he
      obtain ⟨rfl, -, rfl⟩ := he
      obtain ⟨eb, eo, rfl, -⟩ := hx (by omega)
      have m0 : (wr.alloc (.cells #[.int .i64 r, .slice (some ⟨eb, eo, none⟩) 128 ec] 63)).cell? ⟨wr.heap.size, 0, none⟩ = some (.int .i64 r) := World.cell?_alloc_at _ _ _ _ rfl
      have m1 : (wr.alloc (.cells #[.int .i64 r, .slice (some ⟨eb, eo, none⟩) 128 ec] 63)).cell? ⟨wr.heap.size, 1, none⟩ = some (.slice (some ⟨eb, eo, none⟩) 128 ec) := World.cell?_alloc_at _ _ _ _ rfl
      clear hx g4 hdl hpc
      go_wp2
      go_region_held3 (fun w' => w'.cell? ⟨wr.heap.size, 0, none⟩ = some (.int .i64 r) ∧ w'.cell? ⟨wr.heap.size, 1, none⟩ = some (.slice (some ⟨eb, eo, none⟩) 128 ec)) (first | go_keep | assumption | exact elem_stored (by assumption) hg0 _ _)
        (first | (go_at_call 43; refine (clone_any eb eo 128 ec ds _ hdl' (by omega) (by omega) ?_).mono ?_; exact g5.below (Below.refl _ _).drew; rintro e w1 ⟨v, gn, rfl, h1, h2, h3⟩; obtain ⟨vc, rfl, hvc⟩ := h2.form; obtain ⟨hq, hbw1⟩ := elem_after h3; obtain ⟨⟨⟨x0, c0⟩, f0⟩, ⟨⟨x1, c1⟩, f1⟩⟩ := hcl w1 hbw1))
      have hgn : wr.heap.size ≤ gn := by simp at h1; omega
      have hst := (HST w1 hbw1 gn vc hgn h2.lt).out h2.own
      simp only [hdl'] at hst
      clear hq hbw1 c0 c1 f0 f1 h1 h2 h3 m0 m1 g1 g2 g5 hbE HST hcl
      go_wp2
      go_roundw
      case rel => exact ⟨k + 1, by omega, by go_num, _, hst⟩
      case measure => simp [intOf]; omega
    · have hke : k = ps.length := by omega
      subst hke
      have hO := hP.own ps.length
      have hsp := hP.spine
      have hX3 := hX2.below hP.below
      have hY3 := hY2.below hP.below
      have hbel3 := hbel2.trans (hP.below.mono hbel2.size)
      have k4 := k1.below hbel3
      have hg0 := hP.lt
      obtain ⟨x0, x1, x2⟩ := hX3.cells
      have hsh := k4.shape
      obtain ⟨_, _, he, hx⟩ := hsh
      simp only [Value.slice.injEq, true_and] at he
      obtain ⟨rfl, rfl⟩ := he
      obtain ⟨db, doff, rfl, -⟩ := hx hzp
      clear hx hpc hP
      go_wp2
      go_region_held3 (fun w' => w'.cell? ⟨w.heap.size, 0, none⟩ = some (.int .i64 B) ∧ w'.cell? ⟨w.heap.size, 1, none⟩ = some (.slice (some ⟨db, doff, none⟩) zs.length dc)) (first | go_keep | assumption | exact box_stored (by assumption) _ _ _)
        (first | (go_at_call 43; refine (clone_any db doff zs.length dc zs _ rfl hzp hzl' ?_).mono ?_; exact k4.below (Below.refl _ _).drew; rintro e w1 ⟨v, gn, rfl, h1, h2, h3⟩; obtain ⟨vc, rfl, hvc⟩ := h2.form; have hq := box_after hX3 h3; have hYw := Box3.below (w := wr.drew) hY3 h3; obtain ⟨c0, c1, c2⟩ := hYw.cells; have hfr := hYw.free))
      have hgn : wr.heap.size ≤ gn := by simpa using h1
      have hO1 : POwn (w.heap.size + 1 + 1) gn w1 (.slice (some ⟨w.heap.size + 1 + 1, 0, none⟩) ps.length ps.length) ps := (POwn.below (w := wr.drew) (hO.below (Below.refl _ _).drew) h3).wider (Nat.le_refl _) hgn
      have hb1 : Below w.heap.size w w1 := hbel3.drew.trans (h3.mono hbel3.size)
      have hend := fresh_end hb1 h2 hO1 (by omega) (by omega)
      have hspine : ∃ cur, w1.heap[w.heap.size + 1 + 1]? = some (.cells cur 63 (0, 0)) ∧ cur.size = ps.length * 2 := by
        obtain ⟨cur, hq1, hq2⟩ := hsp
        exact ⟨cur, (h3.block _ (by simpa using hg0)).trans hq1, hq2⟩
      clear hq hfr hYw h1 h2 h3 hO hO1 hX2 hX3 hY2 hY3 x0 x1 x2 k4 k1 k2
      go_wp2
      exact bodyPost_ret (v := .agg #[.int .i64 B, .slice (some ⟨gn, 0, none⟩) zs.length vc, .slice (some ⟨w.heap.size + 1 + 1, 0, none⟩) ps.length ps.length]) (by simp [results, Tryz.results31, go_sem, c0, c1, c2]) rfl ⟨_, gn, _, rfl, by omega, by omega, (hend _ _ _).1, (hend _ _ _).2.1, (hend _ _ _).2.2, spine_stored hspine (by omega) _ _ _⟩


/-- block q of the disk replaced -/
def patch (zs : List Int) (q : Nat) (ds : List Int) : List Int := zs.take (q * 128) ++ (ds ++ zs.drop (q * 128 + ds.length))

/-- a copy of bytes into a row, as one step of a region -/
theorem step_copy8 {ops : Array Oper} {o : Oper} {a : Act} {w : World} {K : Act → World → Prop} {Q : Exit → Act → World → Prop} {E : Prop} {g off : Nat} {cur : Array Value} (hgw : w.heap[g]? = some (.cells cur 5 (0, 0))) {ad : Addr} {ds : List Int} (hsrc : ∀ j, j < ds.length → w.cell? (ad.add j) = some (.int .u8 (ds.getD j 0))) (hfit : off + ds.length ≤ cur.size)
    (hg : o.guard = none ∧ ∃ d s dp dLen dCap sLen sCap, o.op = .call { callee := .builtin .copy, args := #[d, s], argTypes := #[22, 22] } ∧ a.eval d = .slice dp dLen dCap ∧ a.eval s = .slice (some ad) sLen sCap ∧ dp = some ⟨g, off, none⟩ ∧ ds.length = Nat.min sLen dLen)
    (h : K (a.put o.dst (goInt ds.length)) (w.setRow g (cur.toList.take off ++ (ds.map (Value.int .u8)) ++ cur.toList.drop (off + ds.length)).toArray)) :
    if Region.wanted o (yielded ops a.tmps) = true then Oper.wp Tryz.prog o a w K Q else E := by
  obtain ⟨hgd, d, s, dp, dLen, dCap, sLen, sCap, ho, hd, hs, rfl, hn⟩ := hg
  have hw : Region.wanted o (yielded ops a.tmps) = true := by simp [Region.wanted, hgd]
  rw [if_pos hw]
  have hsz : (Tryz.prog.info? 5).map (·.size) = some 1 := by kernel_rfl
  have hrun := run_copy_row (P := Tryz.prog) w 22 22 o.type 5 g off dLen dCap ad sLen sCap cur 5 (ds.map (Value.int .u8)) Tryz.underlying22 hsz hgw (by simpa using hn)
    (fun j v hv => by
      have hj : j < ds.length := by
        by_cases hh : j < ds.length
        · exact hh
        · simp [show ds.length ≤ j by omega] at hv
      rw [hsrc j hj]
      simp only [List.getElem?_map, List.getElem?_eq_getElem hj, Option.map_some, Option.some.injEq] at hv
      rw [← hv]; simp [hj])
    (by simpa using hfit) (fun v hv => by
      simp only [List.mem_map] at hv
      obtain ⟨z, _, rfl⟩ := hv
      rfl)
  simp only [List.length_map] at hrun
  unfold Oper.wp
  simp only [execOp, ho, resolve, invoke, builtin, Sem.run_bind, Sem.run_pure, Result.andThen_ok, List.map_toArray, List.map_cons, List.map_nil, hd, hs, hrun]
  exact h

theorem patch_length (zs : List Int) (q : Nat) (ds : List Int) (hl : ds.length = 128) (hq : (q + 1) * 128 ≤ zs.length) : (patch zs q ds).length = zs.length := by
  simp [patch, hl]; omega

theorem patch_get (zs : List Int) (q : Nat) (ds : List Int) (hl : ds.length = 128) (hq : (q + 1) * 128 ≤ zs.length) (i : Nat) : (patch zs q ds).getD i 0 = if q * 128 ≤ i ∧ i < q * 128 + 128 then ds.getD (i - q * 128) 0 else zs.getD i 0 := by
  simp only [patch, List.getD_eq_getElem?_getD, List.getElem?_append, List.length_take, List.getElem?_take, List.getElem?_drop, hl]
  rw [show min (q * 128) zs.length = q * 128 by omega]
  by_cases h1 : i < q * 128
  · rw [if_pos h1, if_pos h1, if_neg (by omega)]
  · rw [if_neg h1]
    by_cases h2 : i - q * 128 < 128
    · rw [if_pos h2, if_pos (by omega)]
    · rw [if_neg h2, if_neg (by omega), show q * 128 + 128 + (i - q * 128 - 128) = i by omega]

theorem patch_small {zs ds : List Int} {q : Nat} (hl : ds.length = 128) (hq : (q + 1) * 128 ≤ zs.length) (h : ∀ i, 0 ≤ zs.getD i 0 ∧ zs.getD i 0 < 256) (h' : ∀ i, 0 ≤ ds.getD i 0 ∧ ds.getD i 0 < 256) (i : Nat) : 0 ≤ (patch zs q ds).getD i 0 ∧ (patch zs q ds).getD i 0 < 256 := by
  rw [patch_get zs q ds hl hq i]
  split
  · exact h' _
  · exact h _

theorem setRow_row {w : World} {g cap : Nat} {cur : Array Value} {zs ds : List Int} {q : Nat} (hg : w.heap[g]? = some (.cells cur 5 (0, 0))) (h3 : zs.length ≤ cap) (h4 : cap ≤ maxLen) (h5 : cur.size = cap) (h6 : cur.toList.take zs.length = zs.map (Value.int .u8)) (hl : ds.length = 128) (hq : (q + 1) * 128 ≤ zs.length)
    (hs : ∀ i, 0 ≤ zs.getD i 0 ∧ zs.getD i 0 < 256) (hd : ∀ i, 0 ≤ ds.getD i 0 ∧ ds.getD i 0 < 256) :
    RowAt (w.setRow g (cur.toList.take (q * 128) ++ (ds.map (Value.int .u8)) ++ cur.toList.drop (q * 128 + ds.length)).toArray) g (.slice (some ⟨g, 0, none⟩) zs.length cap) (patch zs q ds) := by
  refine ⟨⟨cap, _, by rw [patch_length zs q ds hl hq], setRow_heap w g cur _ _ _ hg, by rw [patch_length zs q ds hl hq]; exact h3, h4, by simp [h5]; omega, ?_⟩, patch_small hl hq hs hd⟩
  rw [patch_length zs q ds hl hq]
  apply List.ext_getElem?
  intro i
  have e : ∀ j, j < zs.length → cur.toList[j]? = some (.int .u8 (zs.getD j 0)) := fun j hj => by
    have : (cur.toList.take zs.length)[j]? = (zs.map (Value.int .u8))[j]? := by rw [h6]
    rw [List.getElem?_take, if_pos hj] at this
    rw [this]; simp [hj]
  by_cases hi : i < zs.length
  · rw [List.getElem?_take, if_pos hi, List.getElem?_map]
    have hpi : (patch zs q ds)[i]? = some ((patch zs q ds).getD i 0) := by
      rw [List.getD_eq_getElem?_getD, List.getElem?_eq_getElem (by rw [patch_length zs q ds hl hq]; exact hi)]; rfl
    rw [hpi, patch_get zs q ds hl hq i]
    simp only [List.append_assoc, List.getElem?_append, List.length_take, Array.length_toList, List.length_map, List.getElem?_take, List.getElem?_drop, List.getElem?_map, hl, Option.map_some]
    rw [show min (q * 128) cur.size = q * 128 by omega]
    by_cases h1 : i < q * 128
    · rw [if_pos h1, if_pos h1, if_neg (by omega), e i hi]
    · rw [if_neg h1]
      by_cases h2 : i - q * 128 < 128
      · rw [if_pos h2, if_pos (by omega), List.getElem?_eq_getElem (by omega)]
        simp [show i - q * 128 < ds.length by omega]
      · rw [if_neg h2, if_neg (by omega), show q * 128 + 128 + (i - q * 128 - 128) = i by omega, e i hi]
  · rw [List.getElem?_take, if_neg hi, List.getElem?_map, List.getElem?_eq_none (by rw [patch_length zs q ds hl hq]; omega)]; rfl

theorem Frm.setRow (w : World) (g : Nat) (cs : Array Value) : Frm (fun k => k = g) w (w.setRow g cs) :=
  ⟨rfl, rfl, rfl, by simp [World.setRow], fun k _ hn => setRow_other w g k cs hn⟩

set_option maxRecDepth 100000 in
set_option maxHeartbeats 1000000 in
theorem putBlock_any (g q : Nat) (u : Value) (zs ds : List Int) (w : World) (hu : RowAt w g u zs) (hl : ds.length = 128) (hd : ∀ i, 0 ≤ ds.getD i 0 ∧ ds.getD i 0 < 256) (hq : (q + 1) * 128 ≤ zs.length) (hn : zs.length ≤ 1048576) :
    Calls Tryz.prog 56 #[u, .int .i64 q, .agg (u8s ds)] w fun e w' => e = .returned (.tuple #[]) ∧ RowAt w' g u (patch zs q ds) ∧ Frm (fun k => k = g) w w' := by
  have hlt := hu.lt
  have hsm := hu.small
  obtain ⟨cap, cur, rfl, h2, h3, h4, h5, h6⟩ := hu.shape
  have h2' : (w.alloc (.cells (u8s ds) 121)).heap[g]? = some (.cells cur 5 (0, 0)) := ((belowA w _).block g hlt).trans h2
  have hsrc : ∀ j, j < ds.length → (w.alloc (.cells (u8s ds) 121)).drew.cell? ((⟨w.heap.size, 0, none⟩ : Addr).add j) = some (.int .u8 (ds.getD j 0)) := fun j hj => by
    rw [Addr.add_mid]; exact (rng_new w ds hl 121 w.heap.size rfl).2 j (by omega)
  have hfit : q * 128 + ds.length ≤ cur.size := by omega
  have h1 : (q : Int) * 128 + 128 ≤ cap := by omega
  have hR := setRow_row (w := (w.alloc (.cells (u8s ds) 121)).drew) h2' h3 h4 h5 h6 hl hq hsm hd
  have hF := (Frm.of_below (S := fun k => k = g) ((belowA w (.cells (u8s ds) 121)).drew)).trans (Frm.setRow _ g (cur.toList.take (q * 128) ++ (ds.map (Value.int .u8)) ++ cur.toList.drop (q * 128 + ds.length)).toArray)
  have hw1 : IntKind.i64.wrap ((q : Int) * 128 + 128) = (q : Int) * 128 + 128 := IntWalk.i64_in _ ⟨by omega, by omega⟩
  have b0 : (0 : Int) ≤ (q : Int) * 128 := by omega
  have b1 : (q : Int) * 128 ≤ (q : Int) * 128 + 128 := by omega
  have b2 : (0 : Int) ≤ (q : Int) * 128 + 128 := by omega
  have HDP : Hid ((if cap = ((q : Int) * 128).toNat then some (⟨g, 0, none⟩ : Addr) else some ⟨g, ((q : Int) * 128).toNat, none⟩) = some ⟨g, q * 128, none⟩) := by
    rw [if_neg (by omega), show ((q : Int) * 128).toNat = q * 128 by omega]; rfl
  have HLN : Hid (ds.length = Nat.min 128 (((q : Int) * 128 + 128).toNat - ((q : Int) * 128).toNat)) := by
    rw [show ((q : Int) * 128).toNat = q * 128 by omega, show ((q : Int) * 128 + 128).toNat = q * 128 + 128 by omega, hl, show q * 128 + 128 - q * 128 = 128 by omega]; rfl
  clear h2 h6 hsm
  go_enter Tryz.func56, Tryz.ntmps56
  go_wp2
  go_region_held3 (fun _ => True) (exact True.intro) ((refine step_copy8 (off := q * 128) h2' hsrc hfit ?_ ?_; exact ⟨rfl, _, _, _, _, _, _, _, rfl, rfl, rfl, HDP.out, HLN.out⟩))
  simp only [List.append_assoc, hl] at hR hF
  go_wp2
  go_end0
  exact ⟨rfl, hR, hF⟩

/-- the bytes lie in a block out of S -/
structure BtsOff (S : Nat → Prop) (w : World) (v : Value) (zs : List Int) : Prop where
  bts : Bts w v zs
  off : 0 < zs.length → ∃ a n c, v = .slice (some a) n c ∧ ¬ S a.block

/-- the cache lies in blocks out of S -/
def POff (S : Nat → Prop) (w : World) (v : Value) (ps : List (Int × List Int)) : Prop :=
  ∃ a cap, v = .slice a ps.length cap ∧ (0 < ps.length → ∃ b off, a = some ⟨b, off, none⟩ ∧ ¬ S b ∧ ∀ i, i < ps.length → ∃ da dc, w.cell? ⟨b, off + i * 2, none⟩ = some (.int .i64 (ps.getD i (0, [])).1) ∧ w.cell? ⟨b, off + i * 2 + 1, none⟩ = some (.slice da (ps.getD i (0, [])).2.length dc) ∧ BtsOff S w (.slice da (ps.getD i (0, [])).2.length dc) (ps.getD i (0, [])).2)

theorem BtsOff.frm {S : Nat → Prop} {w w' : World} {v : Value} {zs : List Int} (h : BtsOff S w v zs) (k : Frm S w w') : BtsOff S w' v zs := by
  refine ⟨⟨h.bts.small, ?_⟩, h.off⟩
  obtain ⟨a, cap, hv, hc⟩ := h.bts.shape
  refine ⟨a, cap, hv, fun hp => ?_⟩
  obtain ⟨b, off, ha, hcell⟩ := hc hp
  obtain ⟨a', n, c, hv', hs⟩ := h.off hp
  rw [hv, ha] at hv'
  simp only [Value.slice.injEq, Option.some.injEq] at hv'
  rw [← hv'.1] at hs
  refine ⟨b, off, ha, fun i hi => ?_⟩
  rw [World.cell?_of_block (w := w) (w' := w') (a := ⟨b, off + i, none⟩) (k.block b (World.block_lt_of_cell? _ _ (hcell i hi)) hs)]
  exact hcell i hi

theorem POff.frm {S : Nat → Prop} {w w' : World} {v : Value} {ps : List (Int × List Int)} (h : POff S w v ps) (k : Frm S w w') : POff S w' v ps := by
  obtain ⟨a, cap, hv, hc⟩ := h
  refine ⟨a, cap, hv, fun hp => ?_⟩
  obtain ⟨b, off, ha, hs, hcell⟩ := hc hp
  refine ⟨b, off, ha, hs, fun i hi => ?_⟩
  obtain ⟨da, dc, g1, g2, g3⟩ := hcell i hi
  have hb := k.block b (World.block_lt_of_cell? _ _ g1) hs
  exact ⟨da, dc, (World.cell?_of_block (a := ⟨b, off + i * 2, none⟩) hb).trans g1, (World.cell?_of_block (a := ⟨b, off + i * 2 + 1, none⟩) hb).trans g2, g3.frm k⟩

theorem POff.of_own {S : Nat → Prop} {lo top : Nat} {w : World} {v : Value} {ps : List (Int × List Int)} (h : POwn lo top w v ps) (hS : ∀ k, lo ≤ k → k < top → ¬ S k) : POff S w v ps := by
  obtain ⟨a, cap, hv, hc⟩ := h
  refine ⟨a, cap, hv, fun hp => ?_⟩
  obtain ⟨b, off, ha, h1, h2, h3, g, hg, hj⟩ := hc hp
  refine ⟨b, off, ha, hS b h1 h2, fun i hi => ?_⟩
  obtain ⟨q1, q2, _, _, da, dc, e1, e2, e3, e4⟩ := hg i hi
  refine ⟨da, dc, e1, e2, e4.bts, fun hpp => ?_⟩
  obtain ⟨a', c', hv', hx⟩ := e4.shape
  obtain ⟨b', off', ha', k1, k2, _⟩ := hx hpp
  simp only [Value.slice.injEq] at hv'
  rw [hv'.1, ha']
  exact ⟨_, _, _, rfl, hS _ (by show lo ≤ b'; omega) (by show b' < top; omega)⟩

/-- the writes ps put onto the disk zs, the oldest first -/
def settle (zs : List Int) (ps : List (Int × List Int)) : List Int := ps.foldl (fun z p => patch z p.1.toNat p.2) zs

theorem settle_take (zs : List Int) (ps : List (Int × List Int)) (k : Nat) (h : k < ps.length) : settle zs (ps.take (k + 1)) = patch (settle zs (ps.take k)) (ps.getD k (0, [])).1.toNat (ps.getD k (0, [])).2 := by
  unfold settle
  rw [List.take_succ_eq_append_getElem h, List.foldl_append]
  simp [h]

/-- writes that fit the disk -/
def Fits (n : Nat) (ps : List (Int × List Int)) : Prop := ∀ i, i < ps.length → 0 ≤ (ps.getD i (0, [])).1 ∧ ((ps.getD i (0, [])).1.toNat + 1) * 128 ≤ n ∧ (ps.getD i (0, [])).2.length = 128

theorem settle_length (zs : List Int) (ps : List (Int × List Int)) (hf : Fits zs.length ps) (k : Nat) (hk : k ≤ ps.length) : (settle zs (ps.take k)).length = zs.length := by
  induction k with
  | zero => simp [settle]
  | succ k ih =>
    have := ih (by omega)
    obtain ⟨_, h2, h3⟩ := hf k (by omega)
    rw [settle_take zs ps k (by omega), patch_length _ _ _ h3 (by omega), this]

theorem flush_after {W w1 : World} {p h eb eo g : Nat} {u x y : Value} {cs : List Value} (hS : W.cell? ⟨p, 1, none⟩ = some u ∧ W.cell? ⟨h, 0, none⟩ = some x ∧ W.cell? ⟨h, 1, none⟩ = some y ∧ W.rangeAt eb eo cs) (hF : Frm (fun k => k = g) W.drew w1) (h1 : p ≠ g) (h2 : h ≠ g) (h3 : ¬ (eb = g ∨ eb = p)) :
    w1.cell? ⟨p, 1, none⟩ = some u ∧ w1.cell? ⟨h, 0, none⟩ = some x ∧ w1.cell? ⟨h, 1, none⟩ = some y ∧ w1.rangeAt eb eo cs := by
  obtain ⟨e1, e2, e3, e4⟩ := hS
  have b1 := World.block_lt_of_cell? _ _ e1
  have b2 := World.block_lt_of_cell? _ _ e2
  refine ⟨(World.cell?_of_block (w := W.drew) (a := ⟨p, 1, none⟩) (hF.block p b1 h1)).trans e1, (World.cell?_of_block (w := W.drew) (a := ⟨h, 0, none⟩) (hF.block h b2 h2)).trans e2, (World.cell?_of_block (w := W.drew) (a := ⟨h, 1, none⟩) (hF.block h b2 h2)).trans e3, fun j v hv => ?_⟩
  have e5 := e4 j v hv
  exact (World.cell?_of_block (w := W.drew) (a := ⟨eb, eo + j, none⟩) (hF.block eb (World.block_lt_of_cell? _ _ e5) (fun e => h3 (Or.inl e)))).trans e5

theorem flush_end {w wr : World} {p g : Nat} {x u c : Value} {zs : List Int} {t : TypeId} (hX : Box3 wr p x u c t) (hr : RowAt wr g u zs) (hF : Frm (fun k => k = g ∨ k = p) w wr) (hpg : p ≠ g) :
    Box3 (wr.setCell ⟨p, 2, none⟩ (.slice none 0 0)) p x u (.slice none 0 0) t ∧ RowAt (wr.setCell ⟨p, 2, none⟩ (.slice none 0 0)) g u zs ∧ Frm (fun k => k = g ∨ k = p) w (wr.setCell ⟨p, 2, none⟩ (.slice none 0 0)) := by
  refine ⟨?_, hr.block (Below.heap_setCell _ _ _ _ (fun e => hpg e.symm)), hF.setCell (p := ⟨p, 2, none⟩) (Or.inr rfl) _⟩
  have := heap_setCell_same wr p 2 _ t (.slice none 0 0) hX
  simpa [Box3] using this

set_option maxRecDepth 100000 in
set_option maxHeartbeats 4000000 in
theorem flush_any (p g : Nat) (B : Int) (u : Value) (ca : Option Addr) (cc : Nat) (zs : List Int) (ps : List (Int × List Int)) (w : World) (hX : Box3 w p (.int .i64 B) u (.slice ca ps.length cc) 35) (hu : RowAt w g u zs) (hc : POff (fun k => k = g ∨ k = p) w (.slice ca ps.length cc) ps) (hpg : p ≠ g) (hn : zs.length ≤ 1048576) (hm : ps.length ≤ 1048576) (hf : Fits zs.length ps) :
    Calls Tryz.prog 45 #[.pointer (some ⟨p, 0, none⟩)] w fun e w' => e = .returned (.tuple #[]) ∧ Box3 w' p (.int .i64 B) u (.slice none 0 0) 35 ∧ RowAt w' g u (settle zs ps) ∧ Frm (fun k => k = g ∨ k = p) w w' := by
  obtain ⟨c0, c1, c2⟩ := hX.cells
  have harr := fun a c w => arrayAt_any a 128 c w (Nat.le_refl _)
  have hsz := size128
  go_enter Tryz.func45, Tryz.ntmps45
  go_wp2
  obtain ⟨_, _, he, hpc⟩ := id hc
  simp only [Value.slice.injEq, true_and] at he
  obtain ⟨rfl, rfl⟩ := he
  clear c0 c1 c2
  go_loopw [3, 9] (fun _ i wr => ∃ k : Nat, k ≤ ps.length ∧ i = .int .i64 k ∧ RowAt wr g u (settle zs (ps.take k)) ∧ Frm (fun k => k = g) w wr) (fun _ i _ => ps.length - (intOf i).toNat)
  case atStart => exact ⟨0, Nat.zero_le _, rfl, hu, Frm.refl _ _⟩
  case round =>
    obtain ⟨k, hk, rfl, hr, hF⟩ := hrel
    have hF2 : Frm (fun k => k = g ∨ k = p) w wr := hF.wider (fun k h => Or.inl h)
    have hX1 : Box3 wr p (.int .i64 B) u (.slice ca ps.length cc) 35 := (hF.block p hX.lt hpg).trans hX
    have hc1 := hc.frm hF2
    have hsl := settle_length zs ps hf k hk
    by_cases hlt : k < ps.length
    · obtain ⟨_, _, he, hpc1⟩ := hc1
      simp only [Value.slice.injEq, true_and] at he
      obtain ⟨rfl, rfl⟩ := he
      obtain ⟨b, off, rfl, hsb, hcell⟩ := hpc1 (by omega)
      obtain ⟨ea, ec, g1, g2, g3⟩ := hcell k hlt
      obtain ⟨hf1, hf2, hf3⟩ := hf k hlt
      have HT : Hid (settle zs (ps.take (k + 1)) = patch (settle zs (ps.take k)) (ps.getD k (0, [])).1.toNat (ps.getD k (0, [])).2) := settle_take zs ps k hlt
      clear hcell hpc hpc1
      generalize ps.getD k (0, []) = e at g1 g2 g3 hf1 hf2 hf3 HT
      obtain ⟨r, ds⟩ := e
      simp only at g1 g2 g3 hf1 hf2 hf3 HT
      obtain ⟨n, rfl⟩ := Int.eq_ofNat_of_zero_le hf1
      rw [Int.toNat_natCast] at hf2 HT
      rw [hf3] at g2 g3
      obtain ⟨_, _, _, he, hse⟩ := g3.off (by omega)
      simp only [Value.slice.injEq] at he
      obtain ⟨rfl, rfl, rfl⟩ := he
      have hsh := g3.bts.shape
      obtain ⟨_, _, he, hx⟩ := hsh
      simp only [Value.slice.injEq] at he
      obtain ⟨he1, -, rfl⟩ := he
      obtain ⟨eb, eo, he2, -⟩ := hx (by omega)
      rw [he2] at he1
      simp only [Option.some.injEq] at he1
      subst he1
      clear he2 hx
      have hR0 := Rng8.of_bts g3.bts rfl hf3
      have hsm := g3.bts.small
      have hR1 := hR0.range
      obtain ⟨x0, x1, x2⟩ := hX1.cells
      have hpl := hX1.lt
      have hebl := World.block_lt_of_cell? _ _ (hR0.2 0 (by omega))
      have hr1 := hr.below (belowA wr (.cells #[.int .i64 n, .slice (some ⟨eb, eo, none⟩) 128 ec] 63))
      have hgl := hr.lt
      have hS0 : (wr.alloc (.cells #[.int .i64 n, .slice (some ⟨eb, eo, none⟩) 128 ec] 63)).cell? ⟨p, 1, none⟩ = some u ∧ (wr.alloc (.cells #[.int .i64 n, .slice (some ⟨eb, eo, none⟩) 128 ec] 63)).cell? ⟨wr.heap.size, 0, none⟩ = some (.int .i64 n) ∧ (wr.alloc (.cells #[.int .i64 n, .slice (some ⟨eb, eo, none⟩) 128 ec] 63)).cell? ⟨wr.heap.size, 1, none⟩ = some (.slice (some ⟨eb, eo, none⟩) 128 ec) ∧ (wr.alloc (.cells #[.int .i64 n, .slice (some ⟨eb, eo, none⟩) 128 ec] 63)).rangeAt eb eo (ds.map (Value.int .u8)) :=
        ⟨(World.cell?_alloc_past _ _ _ hpl).trans x1, World.cell?_alloc_at _ _ _ _ rfl, World.cell?_alloc_at _ _ _ _ rfl, World.rangeAt_alloc hR1 _⟩
      have hcl : (ds.map (Value.int .u8)).length = 128 := by simpa using hf3
      have h1c : ∀ v ∈ ds.map (Value.int .u8), v.oneCell' = true := fun v hv => by
        simp only [List.mem_map] at hv
        obtain ⟨z, _, rfl⟩ := hv
        rfl
      have hu82 := Tryz.underlying121
      have hi82 : (Tryz.prog.info? 121).map (·.size) = some (ds.map (Value.int .u8)).length := by rw [hcl]; exact size128
      have hqn : (n + 1) * 128 ≤ (settle zs (ps.take k)).length := by rw [hsl]; exact hf2
      have hqm : (settle zs (ps.take k)).length ≤ 1048576 := by rw [hsl]; exact hn
      clear hsl
      go_wp2
      go_region_held3 (fun w' => w'.cell? ⟨p, 1, none⟩ = some u ∧ w'.cell? ⟨wr.heap.size, 0, none⟩ = some (.int .i64 n) ∧ w'.cell? ⟨wr.heap.size, 1, none⟩ = some (.slice (some ⟨eb, eo, none⟩) 128 ec) ∧ w'.rangeAt eb eo (ds.map (Value.int .u8))) (first | go_keep_ranges | assumption)
        (first | (go_at_call 56; refine (putBlock_any g n u (settle zs (ps.take k)) ds _ ?_ hf3 hsm hqn hqm).mono ?_; exact hr1.below (Below.refl _ _).drew; rintro e w1 ⟨rfl, hr2, hF3⟩; have hS1 := flush_after hS0 hF3 hpg (by omega) hse))
      have hF4 : Frm (fun k => k = g) w w1 := hF.trans ((Frm.of_below (belowA wr (.cells #[.int .i64 n, .slice (some ⟨eb, eo, none⟩) 128 ec] 63)).drew).trans hF3)
      have hr3 : RowAt w1 g u (settle zs (ps.take (k + 1))) := by rw [HT.out]; exact hr2
      clear hS0 hS1 hr1 hr2 hF3 x0 x1 x2 g1 g2 g3 hu82 hi82 hR0 hR1 hcl h1c
      go_wp2
      go_roundw
      case rel => exact ⟨k + 1, by omega, by go_num, hr3, hF4⟩
      case measure => simp [intOf]; omega
    · have HK : Hid (ps.take k = ps) := List.take_of_length_le (by omega)
      rw [HK.out] at hr
      obtain ⟨x0, x1, x2⟩ := hX1.cells
      have hfr := hX1.free
      have hend := flush_end hX1 hr hF2 hpg
      clear hpc hc1 hsl
      go_wp2
      go_end0
      exact ⟨rfl, hend.1, hend.2.1, hend.2.2⟩


theorem fits_of_ok {B : Int} {zs : List Int} {ps : List (Int × List Int)} (hok : dOK B zs ps = true) : Fits zs.length ps := fun i hi => by
  obtain ⟨hB1, hB2, hzl, hpl, hel⟩ := dOK_out hok
  have := of_decide_eq_true (hel i hi)
  refine ⟨this.1, ?_, this.2.2⟩
  omega

/-- a device with an empty cache out of its disk -/
theorem DOwn.of_disk {lo hi : Nat} {w : World} {B : Int} {da : Option Addr} {dc : Nat} {zs : List Int} (hlh : lo ≤ hi) (h : Own8 lo hi w (.slice da zs.length dc) zs) : DOwn lo hi w (.agg #[.int .i64 B, .slice da zs.length dc, .slice none 0 0]) B zs [] :=
  ⟨da, dc, none, 0, lo, hi, hi, hi, rfl, Nat.le_refl _, Nat.le_refl _, hlh, Nat.le_refl _, .inl (Nat.le_refl _), h, POwn.empty _ _ _ _ _⟩


/-- bit k of the bytes ks -/
def kbit (ks : List Int) (k : Nat) : Bool := decide (k / 8 < ks.length) && (bits .and .u8 (ks.getD (k / 8) 0 / 2 ^ (k % 8)) 1 == 1)

/-- write k survives -/
def kept (al : Bool) (ks : List Int) (k : Nat) : Bool := al || kbit ks k
end Go.Proofs.YtpjdhfbeofdplaaGreatDoor

import Derived.Test.YtlndpbebenecgaaDoorSt5
namespace Go.Proofs.YtlndpbebenecgaaDoor
open Go.RowKit

/-- steps of a fresh volume, over the bytes -/
def mkL (z l t u : List Int) : List (Int × Int × List Int) := [(1, 0, z), (1, 1, z), (2, 0, []), (1, 2, l), (1, 3, t), (2, 0, []), (1, 1, u), (2, 0, [])]
/-- the steps of a fresh volume of n blocks -/
def mkS (n : Nat) : List (Int × Int × List Int) := mkL (zr 128) (slL (headL 1 0)) (slL (layP 0 run1 1)) (slL (su6 n))
theorem mkL_data {z l t u : List Int} (hz : z.length = 128) (hl : l.length = 128) (ht : t.length = 128) (hu : u.length = 128) : dataS (mkL z l t u) = 640 := by
  simp only [mkL, dataS, hz, hl, ht, hu, List.length_nil]
  omega
theorem mkS_data (n : Nat) : dataS (mkS n) = 640 := mkL_data (zr_length 128) (slL_length leaf_len) (slL_length (layP_length 0 run1 1 (by omega))) (slL_length (suL_length _))
theorem mkS_length (n : Nat) : (mkS n).length = 8 := rfl
theorem mkS_place (n : Nat) : placeS (mkS n) = 656 := by
  rw [placeS, mkS_data, mkS_length]; rfl
theorem mkS_small (n : Nat) : SSmall (mkS n) := ⟨by rw [mkS_length]; omega, fun i => by have := dataS_el (mkS n) i; rw [mkS_data] at this; omega⟩
theorem zr_byt : Byt (zr 128) := Byt.zeros 128
theorem byt_leaf : Byt (slL (headL 1 0)) := putL_byt (headL_byt 1 0 (by omega) (by omega)) _ _ _
theorem byt_tab : Byt (slL (layP 0 run1 1)) := putL_byt (layP_byt 0 run1 (by decide) 1 (by omega)) _ _ _
theorem byt_sup (n : Nat) : Byt (slL (su6 n)) := by rw [suL_seal]; exact (supP_byt _).seal
theorem seal_head {x : Int} {l : List Int} : (sealL (x :: l))[0]? = some x := by simp [sealL, fillL]
theorem head_leaf : (slL (headL 1 0))[0]? = some 1 := by rw [leaf_seal]; exact seal_head
theorem head_tab : (slL (layP 0 run1 1))[0]? = some 3 := by
  rw [run1_seal, tabL]
  have e : ∃ l, tabP 0 run1 run1.length = 3 :: l := ⟨_, rfl⟩
  obtain ⟨l, e⟩ := e
  rw [e]; exact seal_head
theorem head_sup (n : Nat) : (slL (su6 n))[0]? = some 4 := by
  rw [suL_seal]
  have e : ∃ l, supP n = 4 :: l := ⟨_, rfl⟩
  obtain ⟨l, e⟩ := e
  rw [e]; exact seal_head
theorem Dat.head {w : World} {g g' : Nat} {t : TypeId} {ds ds' : List Int} {x y : Int} (h : Dat w g t ds) (h' : Dat w g' t ds') (hx : ds[0]? = some x) (hy : ds'[0]? = some y) (hne : x ≠ y) : g ≠ g' := by
  rintro rfl
  unfold Dat at h h'
  rw [h] at h'
  simp only [Option.some.injEq, Obj.cells.injEq] at h'
  have e : (u8s ds)[0]? = (u8s ds')[0]? := by rw [h'.1]
  simp only [u8s, List.getElem?_toArray, List.getElem?_map, hx, hy, Option.map_some, Option.some.injEq, Value.int.injEq, true_and] at e
  exact hne e
theorem ty_ne {w : World} {g g' : Nat} {cs cs' : Array Value} {t t' : TypeId} {fr fr' : Nat × Nat} (h : w.heap[g]? = some (.cells cs t fr)) (h' : w.heap[g']? = some (.cells cs' t' fr')) (hne : t ≠ t') : g ≠ g' := by
  rintro rfl
  rw [h] at h'
  simp only [Option.some.injEq, Obj.cells.injEq] at h'
  exact hne h'.2.1

theorem lt8 {i : Nat} (h : i < 8) : i = 0 ∨ i = 1 ∨ i = 2 ∨ i = 3 ∨ i = 4 ∨ i = 5 ∨ i = 6 ∨ i = 7 := by omega
theorem el_read {w : World} {s i m c : Nat} {x y : Int} {a : Option Addr} {zs : List Int} (e1 : w.cell? ⟨s, i * 3, none⟩ = some (.int .i64 x)) (e2 : w.cell? ⟨s, i * 3 + 1, none⟩ = some (.int .i64 y)) (e3 : w.cell? ⟨s, i * 3 + 2, none⟩ = some (.slice a m c)) (hl : zs.length = m) (hb : Bts w (.slice a m c) zs) :
    ∃ da dc, w.cell? ⟨s, 0 + i * 3, none⟩ = some (.int .i64 x) ∧ w.cell? ⟨s, 0 + i * 3 + 1, none⟩ = some (.int .i64 y) ∧ w.cell? ⟨s, 0 + i * 3 + 2, none⟩ = some (.slice da zs.length dc) ∧ Bts w (.slice da zs.length dc) zs := by
  subst hl
  rw [Nat.zero_add]
  exact ⟨a, c, e1, e2, e3, hb⟩

theorem read_gen {w : World} {s sc a0c a1c uc xc yc : Nat} {a0 a1 ua xa ya : Option Addr} {z l t u : List Int} (hz : z.length = 128) (hl : l.length = 128) (ht : t.length = 128) (hu : u.length = 128)
    (hc : ∀ j x, ([.int .i64 1, .int .i64 0, .slice a0 128 a0c, .int .i64 1, .int .i64 1, .slice a1 128 a1c, .int .i64 2, .int .i64 0, .slice none 0 0, .int .i64 1, .int .i64 2, .slice ua 128 uc, .int .i64 1, .int .i64 3, .slice xa 128 xc, .int .i64 2, .int .i64 0, .slice none 0 0, .int .i64 1, .int .i64 1, .slice ya 128 yc, .int .i64 2, .int .i64 0, .slice none 0 0] : List Value)[j]? = some x → w.cell? ⟨s, j, none⟩ = some x) (b0 : Bts w (.slice a0 128 a0c) z) (b1 : Bts w (.slice a1 128 a1c) z) (b3 : Bts w (.slice ua 128 uc) l) (b4 : Bts w (.slice xa 128 xc) t) (b6 : Bts w (.slice ya 128 yc) u) :
    SRead w (.slice (some ⟨s, 0, none⟩) 8 sc) (mkL z l t u) := by
  refine ⟨some ⟨s, 0, none⟩, sc, rfl, fun _ => ⟨s, 0, rfl, fun i hi => ?_⟩⟩
  have hi8 : i < 8 := hi
  have be := (Own8.empty 0 0 w none 0).bts
  rcases (by omega : i = 0 ∨ i = 1 ∨ i = 2 ∨ i = 3 ∨ i = 4 ∨ i = 5 ∨ i = 6 ∨ i = 7) with rfl | rfl | rfl | rfl | rfl | rfl | rfl | rfl
  · exact el_read (zs := z) (hc 0 _ rfl) (hc 1 _ rfl) (hc 2 _ rfl) hz b0
  · exact el_read (zs := z) (hc 3 _ rfl) (hc 4 _ rfl) (hc 5 _ rfl) hz b1
  · exact el_read (zs := []) (hc 6 _ rfl) (hc 7 _ rfl) (hc 8 _ rfl) rfl be
  · exact el_read (zs := l) (hc 9 _ rfl) (hc 10 _ rfl) (hc 11 _ rfl) hl b3
  · exact el_read (zs := t) (hc 12 _ rfl) (hc 13 _ rfl) (hc 14 _ rfl) ht b4
  · exact el_read (zs := []) (hc 15 _ rfl) (hc 16 _ rfl) (hc 17 _ rfl) rfl be
  · exact el_read (zs := u) (hc 18 _ rfl) (hc 19 _ rfl) (hc 20 _ rfl) hu b6
  · exact el_read (zs := []) (hc 21 _ rfl) (hc 22 _ rfl) (hc 23 _ rfl) rfl be

theorem SpR.read {n : Nat} {w : World} {v : Value} (h : SpR n w v) : SRead w v (mkS n) := by
  have k1 := slL_length leaf_len
  have k2 := slL_length (layP_length 0 run1 1 (by omega))
  have k3 := slL_length (suL_length (n : Int))
  have k0 := zr_length 128
  have bz := zr_byt
  have bl := byt_leaf
  have bt := byt_tab
  have bs := byt_sup n
  unfold mkS
  unfold SpR at h
  generalize slL (headL 1 0) = l at *
  generalize slL (layP 0 run1 1) = t at *
  generalize slL (su6 (n : Int)) = u at *
  generalize zr 128 = z at *
  obtain ⟨a0, c0, a1, c1, ua, uc, xa, xc, ya, yc, B, hS, hL⟩ := h
  obtain ⟨s, sc, rfl⟩ := StR.at hS (by omega)
  obtain ⟨cur, _, _, hc⟩ := hS.cells
  have r0 : Row8 B w (.slice a0 128 c0) z := hL (.slice a0 128 c0, z) (by simp)
  have r1 : Row8 B w (.slice a1 128 c1) z := hL (.slice a1 128 c1, z) (by simp)
  have r3 : Row8 B w (.slice ua 128 uc) l := hL (.slice ua 128 uc, l) (by simp)
  have r4 : Row8 B w (.slice xa 128 xc) t := hL (.slice xa 128 xc, t) (by simp)
  have r6 : Row8 B w (.slice ya 128 yc) u := hL (.slice ya 128 yc, u) (by simp)
  exact read_gen k0 k1 k2 k3 hc (r0.own bz).bts (r1.own bz).bts (r3.own bl).bts (r4.own bt).bts (r6.own bs).bts

theorem el_own {w : World} {s i m c g : Nat} {x y : Int} {a : Option Addr} {zs : List Int} {cur : Array Value} (hs : w.heap[s]? = some (.cells cur 79 (0, 0))) (e1 : w.cell? ⟨s, i * 3, none⟩ = some (.int .i64 x)) (e2 : w.cell? ⟨s, i * 3 + 1, none⟩ = some (.int .i64 y)) (e3 : w.cell? ⟨s, i * 3 + 2, none⟩ = some (.slice a m c)) (hl : zs.length = m) (hb : Own8 g (g + 1) w (.slice a m c) zs) : SEl w s 0 g i (x, y, zs) := by
  subst hl
  refine ⟨a, c, ?_, ?_, ?_, frozen_of_row w s _ _ _ hs, frozen_of_row w s _ _ _ hs, hb⟩ <;> rw [Nat.zero_add] <;> assumption

/-- the blocks that the answer's bytes lie in; where there are none, one that nothing else lies in -/
def gOf (ga gb f g1 g2 r g3 q : Nat) : Nat → Nat
  | 0 => ga
  | 1 => gb
  | 2 => f
  | 3 => g1
  | 4 => g2
  | 5 => r
  | 6 => g3
  | _ => q

theorem own_gen {base : Nat} {w : World} {s sc ga gb f g1 g2 r g3 q : Nat} {z l t u : List Int} {cur : Array Value} (hz : z.length = 128) (hl : l.length = 128) (ht : t.length = 128) (hu : u.length = 128) (hsB : base ≤ s) (hs : w.heap[s]? = some (.cells cur 79 (0, 0)))
    (hc : ∀ j x, ([.int .i64 1, .int .i64 0, .slice (some ⟨ga, 0, none⟩) 128 128, .int .i64 1, .int .i64 1, .slice (some ⟨gb, 0, none⟩) 128 128, .int .i64 2, .int .i64 0, .slice none 0 0, .int .i64 1, .int .i64 2, .slice (some ⟨g1, 0, none⟩) 128 128, .int .i64 1, .int .i64 3, .slice (some ⟨g2, 0, none⟩) 128 128, .int .i64 2, .int .i64 0, .slice none 0 0, .int .i64 1, .int .i64 1, .slice (some ⟨g3, 0, none⟩) 128 128, .int .i64 2, .int .i64 0, .slice none 0 0] : List Value)[j]? = some x → w.cell? ⟨s, j, none⟩ = some x) (o0 : Own8 ga (ga + 1) w (.slice (some ⟨ga, 0, none⟩) 128 128) z) (o1 : Own8 gb (gb + 1) w (.slice (some ⟨gb, 0, none⟩) 128 128) z) (o3 : Own8 g1 (g1 + 1) w (.slice (some ⟨g1, 0, none⟩) 128 128) l) (o4 : Own8 g2 (g2 + 1) w (.slice (some ⟨g2, 0, none⟩) 128 128) t) (o6 : Own8 g3 (g3 + 1) w (.slice (some ⟨g3, 0, none⟩) 128 128) u)
    (hb : ∀ x, x ∈ [ga, gb, f, g1, g2, r, g3, q] → base ≤ x ∧ x < w.heap.size ∧ x ≠ s) (hinj : ∀ i j, i < 8 → j < 8 → gOf ga gb f g1 g2 r g3 q i = gOf ga gb f g1 g2 r g3 q j → i = j) :
    SOwn base w.heap.size w (.slice (some ⟨s, 0, none⟩) 8 sc) (mkL z l t u) := by
  have hsl := (Array.getElem?_eq_some_iff.1 hs).1
  refine ⟨some ⟨s, 0, none⟩, sc, rfl, fun _ => ⟨s, 0, rfl, hsB, hsl, hsl, gOf ga gb f g1 g2 r g3 q, fun i hi => ?_, fun i j hi hj hg => hinj i j hi hj hg⟩⟩
  have hi8 : i < 8 := hi
  rcases (by omega : i = 0 ∨ i = 1 ∨ i = 2 ∨ i = 3 ∨ i = 4 ∨ i = 5 ∨ i = 6 ∨ i = 7) with rfl | rfl | rfl | rfl | rfl | rfl | rfl | rfl
  · obtain ⟨x1, x2, x3⟩ := hb ga (by simp)
    exact ⟨x1, x2, x3, x2, el_own (zs := z) hs (hc 0 _ rfl) (hc 1 _ rfl) (hc 2 _ rfl) hz o0⟩
  · obtain ⟨x1, x2, x3⟩ := hb gb (by simp)
    exact ⟨x1, x2, x3, x2, el_own (zs := z) hs (hc 3 _ rfl) (hc 4 _ rfl) (hc 5 _ rfl) hz o1⟩
  · obtain ⟨x1, x2, x3⟩ := hb f (by simp)
    exact ⟨x1, x2, x3, x2, el_own (zs := []) hs (hc 6 _ rfl) (hc 7 _ rfl) (hc 8 _ rfl) rfl (Own8.empty _ _ _ _ _)⟩
  · obtain ⟨x1, x2, x3⟩ := hb g1 (by simp)
    exact ⟨x1, x2, x3, x2, el_own (zs := l) hs (hc 9 _ rfl) (hc 10 _ rfl) (hc 11 _ rfl) hl o3⟩
  · obtain ⟨x1, x2, x3⟩ := hb g2 (by simp)
    exact ⟨x1, x2, x3, x2, el_own (zs := t) hs (hc 12 _ rfl) (hc 13 _ rfl) (hc 14 _ rfl) ht o4⟩
  · obtain ⟨x1, x2, x3⟩ := hb r (by simp)
    exact ⟨x1, x2, x3, x2, el_own (zs := []) hs (hc 15 _ rfl) (hc 16 _ rfl) (hc 17 _ rfl) rfl (Own8.empty _ _ _ _ _)⟩
  · obtain ⟨x1, x2, x3⟩ := hb g3 (by simp)
    exact ⟨x1, x2, x3, x2, el_own (zs := u) hs (hc 18 _ rfl) (hc 19 _ rfl) (hc 20 _ rfl) hu o6⟩
  · obtain ⟨x1, x2, x3⟩ := hb q (by simp)
    exact ⟨x1, x2, x3, x2, el_own (zs := []) hs (hc 21 _ rfl) (hc 22 _ rfl) (hc 23 _ rfl) rfl (Own8.empty _ _ _ _ _)⟩

theorem z128_zr : z128 = zr 128 := rfl
set_option maxHeartbeats 1000000 in
theorem MkR.own {base n : Nat} {w : World} {v : Value} {ga gb g1 g2 g3 f r q : Nat} (hR : MkR base n w v ga gb g1 g2 g3 f r q) : SOwn base w.heap.size w v (mkS n) := by
  obtain ⟨s, sc, hv⟩ := StR.at hR.row (by omega)
  subst hv
  obtain ⟨cur, hsB, hs, hc⟩ := hR.row.cells
  obtain ⟨cf, hf⟩ := hR.fo
  have d0 := hR.da
  have d9 := hR.db
  rw [z128_zr] at d0 d9
  have d1 := hR.d1
  have d2 := hR.d2
  have d3 := hR.d3
  have hro := hR.ro
  have hta := hR.ta
  have k1 := slL_length leaf_len
  have k2 := slL_length (layP_length 0 run1 1 (by omega))
  have k3 := slL_length (suL_length (n : Int))
  have k0 := zr_length 128
  have nab : ga ≠ gb := Nat.ne_of_lt hR.hab
  have n12 : g1 ≠ g2 := d1.head d2 head_leaf head_tab (by omega)
  have n13 : g1 ≠ g3 := d1.head d3 head_leaf (head_sup n) (by omega)
  have n23 : g2 ≠ g3 := d2.head d3 head_tab (head_sup n) (by omega)
  have y0 := d0.own zr_byt 128 128 k0.symm
  have y1 := d9.own zr_byt 128 128 k0.symm
  have y3 := d1.own byt_leaf 128 128 k1.symm
  have y4 := d2.own byt_tab 128 128 k2.symm
  have y6 := d3.own (byt_sup n) 128 128 k3.symm
  have q0 := hR.ba
  have q9 : base ≤ gb := Nat.le_trans hR.ba (Nat.le_of_lt hR.hab)
  have q1 := hR.b1
  have q2 := hR.b2
  have q3 := hR.b3
  have qf := hR.bf
  have qr := hR.br
  have qq := hR.bq
  clear hR
  unfold mkS
  generalize slL (headL 1 0) = l at *
  generalize slL (layP 0 run1 1) = t at *
  generalize slL (su6 n) = u at *
  generalize zr 128 = z at *
  unfold Dat at d0 d9 d1 d2 d3
  refine own_gen (f := f) (r := r) (q := q) k0 k1 k2 k3 hsB hs hc y0 y1 y3 y4 y6 ?_ ?_
  · intro x hx
    simp only [List.mem_cons, List.not_mem_nil, or_false] at hx
    rcases hx with rfl | rfl | rfl | rfl | rfl | rfl | rfl | rfl
    · exact ⟨q0, (Array.getElem?_eq_some_iff.1 d0).1, ty_ne d0 hs (by decide)⟩
    · exact ⟨q9, (Array.getElem?_eq_some_iff.1 d9).1, ty_ne d9 hs (by decide)⟩
    · exact ⟨qf, (Array.getElem?_eq_some_iff.1 hf).1, ty_ne hf hs (by decide)⟩
    · exact ⟨q1, (Array.getElem?_eq_some_iff.1 d1).1, ty_ne d1 hs (by decide)⟩
    · exact ⟨q2, (Array.getElem?_eq_some_iff.1 d2).1, ty_ne d2 hs (by decide)⟩
    · exact ⟨qr, (Array.getElem?_eq_some_iff.1 hro).1, ty_ne hro hs (by decide)⟩
    · exact ⟨q3, (Array.getElem?_eq_some_iff.1 d3).1, ty_ne d3 hs (by decide)⟩
    · exact ⟨qq, (Array.getElem?_eq_some_iff.1 hta).1, ty_ne hta hs (by decide)⟩
  · intro i j hi8 hj8 hg
    have t02 : ga ≠ f := ty_ne d0 hf (by decide)
    have t03 : ga ≠ g1 := ty_ne d0 d1 (by decide)
    have t04 : ga ≠ g2 := ty_ne d0 d2 (by decide)
    have t05 : ga ≠ r := ty_ne d0 hro (by decide)
    have t06 : ga ≠ g3 := ty_ne d0 d3 (by decide)
    have t07 : ga ≠ q := ty_ne d0 hta (by decide)
    have t12 : gb ≠ f := ty_ne d9 hf (by decide)
    have t13 : gb ≠ g1 := ty_ne d9 d1 (by decide)
    have t14 : gb ≠ g2 := ty_ne d9 d2 (by decide)
    have t15 : gb ≠ r := ty_ne d9 hro (by decide)
    have t16 : gb ≠ g3 := ty_ne d9 d3 (by decide)
    have t17 : gb ≠ q := ty_ne d9 hta (by decide)
    have t23 : f ≠ g1 := ty_ne hf d1 (by decide)
    have t24 : f ≠ g2 := ty_ne hf d2 (by decide)
    have t25 : f ≠ r := ty_ne hf hro (by decide)
    have t26 : f ≠ g3 := ty_ne hf d3 (by decide)
    have t27 : f ≠ q := ty_ne hf hta (by decide)
    have t35 : g1 ≠ r := ty_ne d1 hro (by decide)
    have t37 : g1 ≠ q := ty_ne d1 hta (by decide)
    have t45 : g2 ≠ r := ty_ne d2 hro (by decide)
    have t47 : g2 ≠ q := ty_ne d2 hta (by decide)
    have t56 : r ≠ g3 := ty_ne hro d3 (by decide)
    have t57 : r ≠ q := ty_ne hro hta (by decide)
    have t67 : g3 ≠ q := ty_ne d3 hta (by decide)
    clear d0 d9 d1 d2 d3 hf hro hta hs hc y0 y1 y3 y4 y6 q0 q9 q1 q2 q3 qf qr qq k0 k1 k2 k3
    rcases lt8 hi8 with rfl | rfl | rfl | rfl | rfl | rfl | rfl | rfl <;> rcases lt8 hj8 with rfl | rfl | rfl | rfl | rfl | rfl | rfl | rfl <;> first | rfl | (exfalso; simp only [gOf] at hg; first | exact absurd hg (by assumption) | exact absurd hg.symm (by assumption))

set_option maxRecDepth 100000 in
set_option maxHeartbeats 4000000 in
theorem mkfsSteps_gen (ss : List (Int × Int × List Int)) (c n : Int) (hsm : SSmall ss) (hbd : (1 : Int) + placeS ss ≤ 9223372036854775806)
    (hspec : ∀ w, Calls Tryd.prog 8 #[.int .i64 n] w fun e w' => ∃ a cp, e = .returned (.tuple #[.slice a ss.length cp, .int .i64 c]) ∧ SRead w' (.slice a ss.length cp) ss ∧ Below w.heap.size w w')
    (himpl : ∀ w, Calls Tryd.prog 9 #[.int .i64 n] w fun e w' => ∃ a cp, e = .returned (.tuple #[.slice a ss.length cp, .int .i64 c]) ∧ SOwn w.heap.size w'.heap.size w' (.slice a ss.length cp) ss ∧ Below w.heap.size w w') (w : World) :
    Calls Tryd.prog 3 #[.int .i64 n] w fun e w' => e = .returned (.bool true) ∧ Below w.heap.size w w' := by
  have hpn := placeS_nonneg ss
  have hln : ss.length ≤ 281474976710656 := hsm.1
  have n1 : ¬ (1 + placeS ss < 0) := by omega
  have n2 : ((1 + placeS ss) != (1 + placeS ss)) = false := by simp
  have n3 : (c != c) = false := by simp
  have HS : Hid _ := hspec
  have HI : Hid _ := himpl
  clear hspec himpl
  go_enter Tryd.func3, Tryd.ntmps3
  go_wp2_with fail
  refine (HS.out _).mono ?_
  rintro e w1 ⟨a1, c1, rfl, hr1, hb1⟩
  go_wp2_with fail
  refine (HI.out _).mono ?_
  rintro e w2 ⟨a2, c2, rfl, hO, hb2⟩
  go_wp2_with fail
  refine (eqStepS_same _ _ ss _ hO.read (hr1.below hb2) hsm).mono ?_
  rintro e w3 ⟨rfl, hb3⟩
  have hO3 := hO.below hb3
  have hb23 : Below w1.heap.size w1 w3 := hb2.trans (hb3.mono hb2.size)
  have hs2 := hb2.size
  have hs3 := hb3.size
  clear hO hb2 hb3
  go_wp2_with fail
  refine (markStepS_held _ _ _ ss 1 _ hO3 (by omega) hbd hln).mono ?_
  rintro e w4 ⟨rfl, hM, hu4⟩
  have hb4 : Below w1.heap.size w1 w4 := hb23.trans (hu4.below (Nat.le_refl _) (by omega))
  clear hO3 hu4 hb23
  go_wp2_with fail
  refine (heldStepS_any _ ss 1 _ hM (by omega) hbd hln).mono ?_
  rintro e w5 ⟨rfl, rfl⟩
  clear hM
  go_wp2_with fail
  refine (HI.out _).mono ?_
  rintro e w6 ⟨a6, c6, rfl, hO6, hb6⟩
  have hb16 : Below w1.heap.size w1 w6 := hb4.trans (hb6.mono hb4.size)
  clear hb4 hb6
  go_wp2_with fail
  refine (eqStepS_same _ _ ss _ hO6.read (hr1.below hb16) hsm).mono ?_
  rintro e w7 ⟨rfl, hb7⟩
  have hb : Below w.heap.size w w7 := (hb1.trans (hb16.mono hb1.size)).trans (hb7.mono (Nat.le_trans hb1.size hb16.size))
  clear hO6 hr1 hb16 hb7 hb1
  go_wp2
  go_ret
  exact ⟨rfl, hb⟩

theorem SRead.form {w : World} {v : Value} {ss : List (Int × Int × List Int)} (h : SRead w v ss) : ∃ a c, v = .slice a ss.length c := by
  obtain ⟨a, c, e, _⟩ := h; exact ⟨a, c, e⟩
theorem spec_form {w w' : World} {e : Ending} {ss : List (Int × Int × List Int)} (h : ∃ v, e = .returned (.tuple #[v, .int .i64 0]) ∧ SRead w' v ss ∧ Below w.heap.size w w') : ∃ a cp, e = .returned (.tuple #[.slice a ss.length cp, .int .i64 0]) ∧ SRead w' (.slice a ss.length cp) ss ∧ Below w.heap.size w w' := by
  obtain ⟨v, e1, hr, hb⟩ := h
  obtain ⟨a, c, rfl⟩ := hr.form
  exact ⟨a, c, e1, hr, hb⟩
theorem impl_form {w w' : World} {e : Ending} {ss : List (Int × Int × List Int)} (h : ∃ v, e = .returned (.tuple #[v, .int .i64 0]) ∧ SOwn w.heap.size w'.heap.size w' v ss ∧ Below w.heap.size w w') : ∃ a cp, e = .returned (.tuple #[.slice a ss.length cp, .int .i64 0]) ∧ SOwn w.heap.size w'.heap.size w' (.slice a ss.length cp) ss ∧ Below w.heap.size w w' := by
  obtain ⟨v, e1, hr, hb⟩ := h
  obtain ⟨a, c, rfl⟩ := hr.read.form
  exact ⟨a, c, e1, hr, hb⟩

theorem mkfsSteps_yes (m : Nat) (hm : 8 ≤ m ∧ m ≤ 512) (w : World) :
    Calls Tryd.prog 3 #[.int .i64 m] w fun e w' => e = .returned (.bool true) ∧ Below w.heap.size w w' := by
  have hbd : (1 : Int) + placeS (mkS m) ≤ 9223372036854775806 := by rw [mkS_place]; omega
  have hsp : ∀ w, Calls Tryd.prog 8 #[.int .i64 m] w fun e w' => ∃ v, e = .returned (.tuple #[v, .int .i64 0]) ∧ SRead w' v (mkS m) ∧ Below w.heap.size w w' := fun w =>
    (specMkfs_yes m hm w).mono fun e w' ⟨v, e1, hP, hb⟩ => ⟨v, e1, hP.read, hb⟩
  have him : ∀ w, Calls Tryd.prog 9 #[.int .i64 m] w fun e w' => ∃ v, e = .returned (.tuple #[v, .int .i64 0]) ∧ SOwn w.heap.size w'.heap.size w' v (mkS m) ∧ Below w.heap.size w w' := fun w =>
    (implMkfs_yes m hm w).mono fun e w' ⟨v, _, _, _, _, _, _, _, _, e1, hR, hb⟩ => ⟨v, e1, hR.own, hb⟩
  have hsm := mkS_small m
  generalize mkS m = ss at *
  exact mkfsSteps_gen ss 0 m hsm hbd (fun w => (hsp w).mono fun e w' h => spec_form h) (fun w => (him w).mono fun e w' h => impl_form h) w

theorem mkfsSteps_no (n : Int) (hn : ¬ (8 ≤ n ∧ n ≤ 512)) (w : World) :
    Calls Tryd.prog 3 #[.int .i64 n] w fun e w' => e = .returned (.bool true) ∧ Below w.heap.size w w' :=
  mkfsSteps_gen [] 1 n ⟨by simp, by simp⟩ (by simp [placeS, dataS]) (fun w => (specMkfs_no n hn w).mono fun e w' ⟨e1, e2⟩ => ⟨none, 0, e1, SRead.empty _ _ _, e2 ▸ Below.refl _ _⟩)
    (fun w => (implMkfs_no n hn w).mono fun e w' ⟨e1, e2⟩ => ⟨none, 0, e1, SOwn.empty _ _ _ _ _, e2 ▸ Below.refl _ _⟩) w

theorem mkfsSteps_all (n : Int) (w : World) :
    Calls Tryd.prog 3 #[.int .i64 n] w fun e w' => e = .returned (.bool true) ∧ Below w.heap.size w w' := by
  by_cases hn : 8 ≤ n ∧ n ≤ 512
  · obtain ⟨m, rfl⟩ : ∃ m : Nat, n = (m : Int) := ⟨n.toNat, by omega⟩
    exact mkfsSteps_yes m (by omega) w
  · exact mkfsSteps_no n hn w

end Go.Proofs.YtlndpbebenecgaaDoor

import Derived.Test.YtpjdhfbeofdplaaGreatDoorMs8
import Derived.Test.YtpjdhfbeofdplaaGreatDoorSt1
import Derived.Test.YtpjdhfbeofdplaaGreatDoorDvd
namespace Go.Proofs.YtpjdhfbeofdplaaGreatDoor
open Go.RowKit
set_option linter.unusedVariables false


/-- steps of a fresh volume, over the bytes -/
def mkL (z l t u : List Int) : List (Int × Int × List Int) := [(1, 0, z), (1, 1, z), (2, 0, []), (1, 2, l), (1, 3, t), (2, 0, []), (1, 1, u), (2, 0, [])]

/-- the steps of a fresh volume of n blocks -/
def mkS (n : Nat) : List (Int × Int × List Int) := mkL (zr 128) (slL (headL 1 0)) (slL (layP 0 run1 1)) (slL (su6 n))

theorem mkL_data {z l t u : List Int} (hz : z.length = 128) (hl : l.length = 128) (ht : t.length = 128) (hu : u.length = 128) : dataS (mkL z l t u) = 640 := by
  simp only [mkL, dataS, hz, hl, ht, hu, List.length_nil]
  omega

theorem mkS_data (n : Nat) : dataS (mkS n) = 640 := mkL_data (zr_length 128) (slL_length leaf_len) (slL_length (layP_length 0 run1 1 (by omega))) (slL_length (suL_length _))

theorem mkS_length (n : Nat) : (mkS n).length = 8 := rfl

theorem mkS_small (n : Nat) : SSmall (mkS n) := ⟨by rw [mkS_length]; omega, fun i => by have := dataS_el (mkS n) i; rw [mkS_data] at this; omega⟩

theorem zr_byt : Byt (zr 128) := Byt.zeros 128

theorem byt_leaf : Byt (slL (headL 1 0)) := putL_byt (headL_byt 1 0 (by omega) (by omega)) _ _ _

theorem byt_tab : Byt (slL (layP 0 run1 1)) := putL_byt (layP_byt 0 run1 (by decide) 1 (by omega)) _ _ _

theorem byt_sup (n : Nat) : Byt (slL (su6 n)) := by rw [suL_seal]; exact (supP_byt _).seal

theorem seal_head {x : Int} {l : List Int} : (sealL (x :: l))[0]? = some x := by simp [sealL, fillL]

theorem head_leaf : (slL (headL 1 0))[0]? = some 1 := by rw [leaf_seal]; exact seal_head

theorem head_tab : (slL (layP 0 run1 1))[0]? = some 3 := by
  rw [run1_seal, tabL]
  have e : ∃ l, tabP 0 run1 run1.length = 3 :: l := ⟨_, rfl⟩
  obtain ⟨l, e⟩ := e
  rw [e]; exact seal_head

theorem head_sup (n : Nat) : (slL (su6 n))[0]? = some 4 := by
  rw [suL_seal]
  have e : ∃ l, supP n = 4 :: l := ⟨_, rfl⟩
  obtain ⟨l, e⟩ := e
  rw [e]; exact seal_head

theorem Dat.head {w : World} {g g' : Nat} {t : TypeId} {ds ds' : List Int} {x y : Int} (h : Dat w g t ds) (h' : Dat w g' t ds') (hx : ds[0]? = some x) (hy : ds'[0]? = some y) (hne : x ≠ y) : g ≠ g' := by
  rintro rfl
  unfold Dat at h h'
  rw [h] at h'
  simp only [Option.some.injEq, Obj.cells.injEq] at h'
  have e : (u8s ds)[0]? = (u8s ds')[0]? := by rw [h'.1]
  simp only [u8s, List.getElem?_toArray, List.getElem?_map, hx, hy, Option.map_some, Option.some.injEq, Value.int.injEq, true_and] at e
  exact hne e

theorem ty_ne {w : World} {g g' : Nat} {cs cs' : Array Value} {t t' : TypeId} {fr fr' : Nat × Nat} (h : w.heap[g]? = some (.cells cs t fr)) (h' : w.heap[g']? = some (.cells cs' t' fr')) (hne : t ≠ t') : g ≠ g' := by
  rintro rfl
  rw [h] at h'
  simp only [Option.some.injEq, Obj.cells.injEq] at h'
  exact hne h'.2.1

theorem lt8 {i : Nat} (h : i < 8) : i = 0 ∨ i = 1 ∨ i = 2 ∨ i = 3 ∨ i = 4 ∨ i = 5 ∨ i = 6 ∨ i = 7 := by omega

theorem el_read {w : World} {s i m c : Nat} {x y : Int} {a : Option Addr} {zs : List Int} (e1 : w.cell? ⟨s, i * 3, none⟩ = some (.int .i64 x)) (e2 : w.cell? ⟨s, i * 3 + 1, none⟩ = some (.int .i64 y)) (e3 : w.cell? ⟨s, i * 3 + 2, none⟩ = some (.slice a m c)) (hl : zs.length = m) (hb : Bts w (.slice a m c) zs) :
    ∃ da dc, w.cell? ⟨s, 0 + i * 3, none⟩ = some (.int .i64 x) ∧ w.cell? ⟨s, 0 + i * 3 + 1, none⟩ = some (.int .i64 y) ∧ w.cell? ⟨s, 0 + i * 3 + 2, none⟩ = some (.slice da zs.length dc) ∧ Bts w (.slice da zs.length dc) zs := by
  subst hl
  rw [Nat.zero_add]
  exact ⟨a, c, e1, e2, e3, hb⟩

theorem read_gen {w : World} {s sc a0c a1c uc xc yc : Nat} {a0 a1 ua xa ya : Option Addr} {z l t u : List Int} (hz : z.length = 128) (hl : l.length = 128) (ht : t.length = 128) (hu : u.length = 128)
    (hc : ∀ j x, ([.int .i64 1, .int .i64 0, .slice a0 128 a0c, .int .i64 1, .int .i64 1, .slice a1 128 a1c, .int .i64 2, .int .i64 0, .slice none 0 0, .int .i64 1, .int .i64 2, .slice ua 128 uc, .int .i64 1, .int .i64 3, .slice xa 128 xc, .int .i64 2, .int .i64 0, .slice none 0 0, .int .i64 1, .int .i64 1, .slice ya 128 yc, .int .i64 2, .int .i64 0, .slice none 0 0] : List Value)[j]? = some x → w.cell? ⟨s, j, none⟩ = some x) (b0 : Bts w (.slice a0 128 a0c) z) (b1 : Bts w (.slice a1 128 a1c) z) (b3 : Bts w (.slice ua 128 uc) l) (b4 : Bts w (.slice xa 128 xc) t) (b6 : Bts w (.slice ya 128 yc) u) :
    SRead w (.slice (some ⟨s, 0, none⟩) 8 sc) (mkL z l t u) := by
  refine ⟨some ⟨s, 0, none⟩, sc, rfl, fun _ => ⟨s, 0, rfl, fun i hi => ?_⟩⟩
  have hi8 : i < 8 := hi
  have be := (Own8.empty 0 0 w none 0).bts
  rcases (by omega : i = 0 ∨ i = 1 ∨ i = 2 ∨ i = 3 ∨ i = 4 ∨ i = 5 ∨ i = 6 ∨ i = 7) with rfl | rfl | rfl | rfl | rfl | rfl | rfl | rfl
  · exact el_read (zs := z) (hc 0 _ rfl) (hc 1 _ rfl) (hc 2 _ rfl) hz b0
  · exact el_read (zs := z) (hc 3 _ rfl) (hc 4 _ rfl) (hc 5 _ rfl) hz b1
  · exact el_read (zs := []) (hc 6 _ rfl) (hc 7 _ rfl) (hc 8 _ rfl) rfl be
  · exact el_read (zs := l) (hc 9 _ rfl) (hc 10 _ rfl) (hc 11 _ rfl) hl b3
  · exact el_read (zs := t) (hc 12 _ rfl) (hc 13 _ rfl) (hc 14 _ rfl) ht b4
  · exact el_read (zs := []) (hc 15 _ rfl) (hc 16 _ rfl) (hc 17 _ rfl) rfl be
  · exact el_read (zs := u) (hc 18 _ rfl) (hc 19 _ rfl) (hc 20 _ rfl) hu b6
  · exact el_read (zs := []) (hc 21 _ rfl) (hc 22 _ rfl) (hc 23 _ rfl) rfl be

theorem SpR.read {n : Nat} {w : World} {v : Value} (h : SpR n w v) : SRead w v (mkS n) := by
  have k1 := slL_length leaf_len
  have k2 := slL_length (layP_length 0 run1 1 (by omega))
  have k3 := slL_length (suL_length (n : Int))
  have k0 := zr_length 128
  have bz := zr_byt
  have bl := byt_leaf
  have bt := byt_tab
  have bs := byt_sup n
  unfold mkS
  unfold SpR at h
  generalize slL (headL 1 0) = l at *
  generalize slL (layP 0 run1 1) = t at *
  generalize slL (su6 (n : Int)) = u at *
  generalize zr 128 = z at *
  obtain ⟨a0, c0, a1, c1, ua, uc, xa, xc, ya, yc, B, hS, hL⟩ := h
  obtain ⟨s, sc, rfl⟩ := StR.at hS (by omega)
  obtain ⟨cur, _, _, hc⟩ := hS.cells
  have r0 : Row8 B w (.slice a0 128 c0) z := hL (.slice a0 128 c0, z) (by simp)
  have r1 : Row8 B w (.slice a1 128 c1) z := hL (.slice a1 128 c1, z) (by simp)
  have r3 : Row8 B w (.slice ua 128 uc) l := hL (.slice ua 128 uc, l) (by simp)
  have r4 : Row8 B w (.slice xa 128 xc) t := hL (.slice xa 128 xc, t) (by simp)
  have r6 : Row8 B w (.slice ya 128 yc) u := hL (.slice ya 128 yc, u) (by simp)
  exact read_gen k0 k1 k2 k3 hc (r0.own bz).bts (r1.own bz).bts (r3.own bl).bts (r4.own bt).bts (r6.own bs).bts

theorem el_own {w : World} {s i m c g : Nat} {x y : Int} {a : Option Addr} {zs : List Int} {cur : Array Value} (hs : w.heap[s]? = some (.cells cur 50 (0, 0))) (e1 : w.cell? ⟨s, i * 3, none⟩ = some (.int .i64 x)) (e2 : w.cell? ⟨s, i * 3 + 1, none⟩ = some (.int .i64 y)) (e3 : w.cell? ⟨s, i * 3 + 2, none⟩ = some (.slice a m c)) (hl : zs.length = m) (hb : Own8 g (g + 1) w (.slice a m c) zs) : SEl w s 0 g i (x, y, zs) := by
  subst hl
  refine ⟨a, c, ?_, ?_, ?_, frozen_of_row w s _ _ _ hs, frozen_of_row w s _ _ _ hs, hb⟩ <;> rw [Nat.zero_add] <;> assumption

/-- the blocks that the answer's bytes lie in; where there are none, one that nothing else lies in -/
def gOf (ga gb f g1 g2 r g3 q : Nat) : Nat → Nat
  | 0 => ga
  | 1 => gb
  | 2 => f
  | 3 => g1
  | 4 => g2
  | 5 => r
  | 6 => g3
  | _ => q

theorem own_gen {base : Nat} {w : World} {s sc ga gb f g1 g2 r g3 q : Nat} {z l t u : List Int} {cur : Array Value} (hz : z.length = 128) (hl : l.length = 128) (ht : t.length = 128) (hu : u.length = 128) (hsB : base ≤ s) (hs : w.heap[s]? = some (.cells cur 50 (0, 0)))
    (hc : ∀ j x, ([.int .i64 1, .int .i64 0, .slice (some ⟨ga, 0, none⟩) 128 128, .int .i64 1, .int .i64 1, .slice (some ⟨gb, 0, none⟩) 128 128, .int .i64 2, .int .i64 0, .slice none 0 0, .int .i64 1, .int .i64 2, .slice (some ⟨g1, 0, none⟩) 128 128, .int .i64 1, .int .i64 3, .slice (some ⟨g2, 0, none⟩) 128 128, .int .i64 2, .int .i64 0, .slice none 0 0, .int .i64 1, .int .i64 1, .slice (some ⟨g3, 0, none⟩) 128 128, .int .i64 2, .int .i64 0, .slice none 0 0] : List Value)[j]? = some x → w.cell? ⟨s, j, none⟩ = some x) (o0 : Own8 ga (ga + 1) w (.slice (some ⟨ga, 0, none⟩) 128 128) z) (o1 : Own8 gb (gb + 1) w (.slice (some ⟨gb, 0, none⟩) 128 128) z) (o3 : Own8 g1 (g1 + 1) w (.slice (some ⟨g1, 0, none⟩) 128 128) l) (o4 : Own8 g2 (g2 + 1) w (.slice (some ⟨g2, 0, none⟩) 128 128) t) (o6 : Own8 g3 (g3 + 1) w (.slice (some ⟨g3, 0, none⟩) 128 128) u)
    (hb : ∀ x, x ∈ [ga, gb, f, g1, g2, r, g3, q] → base ≤ x ∧ x < w.heap.size ∧ x ≠ s) (hinj : ∀ i j, i < 8 → j < 8 → gOf ga gb f g1 g2 r g3 q i = gOf ga gb f g1 g2 r g3 q j → i = j) :
    SOwn base w.heap.size w (.slice (some ⟨s, 0, none⟩) 8 sc) (mkL z l t u) := by
  have hsl := (Array.getElem?_eq_some_iff.1 hs).1
  refine ⟨some ⟨s, 0, none⟩, sc, rfl, fun _ => ⟨s, 0, rfl, hsB, hsl, hsl, gOf ga gb f g1 g2 r g3 q, fun i hi => ?_, fun i j hi hj hg => hinj i j hi hj hg⟩⟩
  have hi8 : i < 8 := hi
  rcases (by omega : i = 0 ∨ i = 1 ∨ i = 2 ∨ i = 3 ∨ i = 4 ∨ i = 5 ∨ i = 6 ∨ i = 7) with rfl | rfl | rfl | rfl | rfl | rfl | rfl | rfl
  · obtain ⟨x1, x2, x3⟩ := hb ga (by simp)
    exact ⟨x1, x2, x3, x2, el_own (zs := z) hs (hc 0 _ rfl) (hc 1 _ rfl) (hc 2 _ rfl) hz o0⟩
  · obtain ⟨x1, x2, x3⟩ := hb gb (by simp)
    exact ⟨x1, x2, x3, x2, el_own (zs := z) hs (hc 3 _ rfl) (hc 4 _ rfl) (hc 5 _ rfl) hz o1⟩
  · obtain ⟨x1, x2, x3⟩ := hb f (by simp)
    exact ⟨x1, x2, x3, x2, el_own (zs := []) hs (hc 6 _ rfl) (hc 7 _ rfl) (hc 8 _ rfl) rfl (Own8.empty _ _ _ _ _)⟩
  · obtain ⟨x1, x2, x3⟩ := hb g1 (by simp)
    exact ⟨x1, x2, x3, x2, el_own (zs := l) hs (hc 9 _ rfl) (hc 10 _ rfl) (hc 11 _ rfl) hl o3⟩
  · obtain ⟨x1, x2, x3⟩ := hb g2 (by simp)
    exact ⟨x1, x2, x3, x2, el_own (zs := t) hs (hc 12 _ rfl) (hc 13 _ rfl) (hc 14 _ rfl) ht o4⟩
  · obtain ⟨x1, x2, x3⟩ := hb r (by simp)
    exact ⟨x1, x2, x3, x2, el_own (zs := []) hs (hc 15 _ rfl) (hc 16 _ rfl) (hc 17 _ rfl) rfl (Own8.empty _ _ _ _ _)⟩
  · obtain ⟨x1, x2, x3⟩ := hb g3 (by simp)
    exact ⟨x1, x2, x3, x2, el_own (zs := u) hs (hc 18 _ rfl) (hc 19 _ rfl) (hc 20 _ rfl) hu o6⟩
  · obtain ⟨x1, x2, x3⟩ := hb q (by simp)
    exact ⟨x1, x2, x3, x2, el_own (zs := []) hs (hc 21 _ rfl) (hc 22 _ rfl) (hc 23 _ rfl) rfl (Own8.empty _ _ _ _ _)⟩

theorem z128_zr : z128 = zr 128 := rfl

set_option maxHeartbeats 1000000 in
theorem MkR.own {base n : Nat} {w : World} {v : Value} {ga gb g1 g2 g3 f r q : Nat} (hR : MkR base n w v ga gb g1 g2 g3 f r q) : SOwn base w.heap.size w v (mkS n) := by
  obtain ⟨s, sc, hv⟩ := StR.at hR.row (by omega)
  subst hv
  obtain ⟨cur, hsB, hs, hc⟩ := hR.row.cells
  obtain ⟨cf, hf⟩ := hR.fo
  have d0 := hR.da
  have d9 := hR.db
  rw [z128_zr] at d0 d9
  have d1 := hR.d1
  have d2 := hR.d2
  have d3 := hR.d3
  have hro := hR.ro
  have hta := hR.ta
  have k1 := slL_length leaf_len
  have k2 := slL_length (layP_length 0 run1 1 (by omega))
  have k3 := slL_length (suL_length (n : Int))
  have k0 := zr_length 128
  have nab : ga ≠ gb := Nat.ne_of_lt hR.hab
  have n12 : g1 ≠ g2 := d1.head d2 head_leaf head_tab (by omega)
  have n13 : g1 ≠ g3 := d1.head d3 head_leaf (head_sup n) (by omega)
  have n23 : g2 ≠ g3 := d2.head d3 head_tab (head_sup n) (by omega)
  have y0 := d0.own zr_byt 128 128 k0.symm
  have y1 := d9.own zr_byt 128 128 k0.symm
  have y3 := d1.own byt_leaf 128 128 k1.symm
  have y4 := d2.own byt_tab 128 128 k2.symm
  have y6 := d3.own (byt_sup n) 128 128 k3.symm
  have q0 := hR.ba
  have q9 : base ≤ gb := Nat.le_trans hR.ba (Nat.le_of_lt hR.hab)
  have q1 := hR.b1
  have q2 := hR.b2
  have q3 := hR.b3
  have qf := hR.bf
  have qr := hR.br
  have qq := hR.bq
  clear hR
  unfold mkS
  generalize slL (headL 1 0) = l at *
  generalize slL (layP 0 run1 1) = t at *
  generalize slL (su6 n) = u at *
  generalize zr 128 = z at *
  unfold Dat at d0 d9 d1 d2 d3
  refine own_gen (f := f) (r := r) (q := q) k0 k1 k2 k3 hsB hs hc y0 y1 y3 y4 y6 ?_ ?_
  · intro x hx
    simp only [List.mem_cons, List.not_mem_nil, or_false] at hx
    rcases hx with rfl | rfl | rfl | rfl | rfl | rfl | rfl | rfl
    · exact ⟨q0, (Array.getElem?_eq_some_iff.1 d0).1, ty_ne d0 hs (by decide)⟩
    · exact ⟨q9, (Array.getElem?_eq_some_iff.1 d9).1, ty_ne d9 hs (by decide)⟩
    · exact ⟨qf, (Array.getElem?_eq_some_iff.1 hf).1, ty_ne hf hs (by decide)⟩
    · exact ⟨q1, (Array.getElem?_eq_some_iff.1 d1).1, ty_ne d1 hs (by decide)⟩
    · exact ⟨q2, (Array.getElem?_eq_some_iff.1 d2).1, ty_ne d2 hs (by decide)⟩
    · exact ⟨qr, (Array.getElem?_eq_some_iff.1 hro).1, ty_ne hro hs (by decide)⟩
    · exact ⟨q3, (Array.getElem?_eq_some_iff.1 d3).1, ty_ne d3 hs (by decide)⟩
    · exact ⟨qq, (Array.getElem?_eq_some_iff.1 hta).1, ty_ne hta hs (by decide)⟩
  · intro i j hi8 hj8 hg
    have t02 : ga ≠ f := ty_ne d0 hf (by decide)
    have t03 : ga ≠ g1 := ty_ne d0 d1 (by decide)
    have t04 : ga ≠ g2 := ty_ne d0 d2 (by decide)
    have t05 : ga ≠ r := ty_ne d0 hro (by decide)
    have t06 : ga ≠ g3 := ty_ne d0 d3 (by decide)
    have t07 : ga ≠ q := ty_ne d0 hta (by decide)
    have t12 : gb ≠ f := ty_ne d9 hf (by decide)
    have t13 : gb ≠ g1 := ty_ne d9 d1 (by decide)
    have t14 : gb ≠ g2 := ty_ne d9 d2 (by decide)
    have t15 : gb ≠ r := ty_ne d9 hro (by decide)
    have t16 : gb ≠ g3 := ty_ne d9 d3 (by decide)
    have t17 : gb ≠ q := ty_ne d9 hta (by decide)
    have t23 : f ≠ g1 := ty_ne hf d1 (by decide)
    have t24 : f ≠ g2 := ty_ne hf d2 (by decide)
    have t25 : f ≠ r := ty_ne hf hro (by decide)
    have t26 : f ≠ g3 := ty_ne hf d3 (by decide)
    have t27 : f ≠ q := ty_ne hf hta (by decide)
    have t35 : g1 ≠ r := ty_ne d1 hro (by decide)
    have t37 : g1 ≠ q := ty_ne d1 hta (by decide)
    have t45 : g2 ≠ r := ty_ne d2 hro (by decide)
    have t47 : g2 ≠ q := ty_ne d2 hta (by decide)
    have t56 : r ≠ g3 := ty_ne hro d3 (by decide)
    have t57 : r ≠ q := ty_ne hro hta (by decide)
    have t67 : g3 ≠ q := ty_ne d3 hta (by decide)
    clear d0 d9 d1 d2 d3 hf hro hta hs hc y0 y1 y3 y4 y6 q0 q9 q1 q2 q3 qf qr qq k0 k1 k2 k3
    rcases lt8 hi8 with rfl | rfl | rfl | rfl | rfl | rfl | rfl | rfl <;> rcases lt8 hj8 with rfl | rfl | rfl | rfl | rfl | rfl | rfl | rfl <;> first | rfl | (exfalso; simp only [gOf] at hg; first | exact absurd hg (by assumption) | exact absurd hg.symm (by assumption))
end Go.Proofs.YtpjdhfbeofdplaaGreatDoor

namespace Go.Proofs.YtpjdhfbeofdplaaGreatDoor
open Go.RowKit
set_option linter.unusedVariables false

/-- the steps' bytes laid over the disk, one after another -/
def lay (z : List Int) : List (Int × Int × List Int) → List Int
  | [] => z
  | s :: r => lay (pt z s.2.1.toNat s.2.2 s.2.2.length) r

theorem lay_length (ss : List (Int × Int × List Int)) : ∀ z : List Int, (lay z ss).length = z.length := by
  induction ss with
  | nil => intro z; rfl
  | cons s r ih => intro z; rw [lay, ih, pt_length]

theorem lay_take (ss : List (Int × Int × List Int)) : ∀ (z : List Int) (k : Nat), k < ss.length → lay z (ss.take (k + 1)) = pt (lay z (ss.take k)) (ss.getD k (0, 0, [])).2.1.toNat (ss.getD k (0, 0, [])).2.2 (ss.getD k (0, 0, [])).2.2.length := by
  induction ss with
  | nil => intro z k h; simp at h
  | cons s r ih =>
    intro z k h
    cases k with
    | zero => simp [lay]
    | succ k =>
      rw [List.take_succ_cons, lay, ih _ k (by simpa using h), List.take_succ_cons, lay]
      simp

/-- l5Apply at work: out's bytes in block g from off on -/
structure L5 (w W : World) (g off n : Nat) (z : List Int) : Prop where
  disk : Dsk W g off z
  len : z.length = n
  gl : g < W.heap.size
  hg : w.heap.size ≤ g
  below : Below w.heap.size w W

theorem L5.below' {w W W' : World} {g off n : Nat} {z : List Int} (h : L5 w W g off n z) (k : Below W.heap.size W W') : L5 w W' g off n z :=
  ⟨h.disk.block (k.block g h.gl), h.len, Nat.lt_of_lt_of_le h.gl k.size, h.hg, h.below.trans (k.mono h.below.size)⟩

theorem L5.put {w W : World} {g off n : Nat} {z : List Int} (h : L5 w W g off n z) (j : Nat) (hj : j < n) (v : Int) (hv : 0 ≤ v ∧ v < 256) : L5 w (W.setCell ⟨g, off + j, none⟩ (.int .u8 v)) g off n (z.set j v) :=
  ⟨h.disk.set j (by rw [h.len]; exact hj) v hv, by rw [List.length_set]; exact h.len, by simpa using h.gl, h.hg, h.below.setCell (p := ⟨g, off + j, none⟩) h.hg _⟩

/-- the fresh volume's disk -/
def mkD (zs z l t u : List Int) : List Int := patch (patch (patch (patch (patch zs 0 z) 1 z) 2 l) 3 t) 1 u

theorem pt_zero (D : List Int) (q : Nat) (ds : List Int) : pt D q ds 0 = D := rfl

theorem mk_lay {zs z l t u : List Int} (hz : z.length = 128) (hl : l.length = 128) (ht : t.length = 128) (hu : u.length = 128) (hn : 512 ≤ zs.length) : lay zs (mkL z l t u) = mkD zs z l t u := by
  have p0 := patch_length zs 0 z hz (by omega)
  have p1 := patch_length (patch zs 0 z) 1 z hz (by omega)
  have p2 := patch_length (patch (patch zs 0 z) 1 z) 2 l hl (by omega)
  have p3 := patch_length (patch (patch (patch zs 0 z) 1 z) 2 l) 3 t ht (by omega)
  simp only [mkL, lay, hz, hl, ht, hu, List.length_nil, pt_zero, mkD, show (0 : Int).toNat = 0 from rfl, show (1 : Int).toNat = 1 from rfl, show (2 : Int).toNat = 2 from rfl, show (3 : Int).toNat = 3 from rfl]
  rw [pt_all zs 0 z hz (by omega), pt_all _ 1 z hz (by omega), pt_all _ 2 l hl (by omega), pt_all _ 3 t ht (by omega), pt_all _ 1 u hu (by omega)]

theorem run_write {B : Int} {z : List Int} {p : List (Int × List Int)} {q : Int} {d : List Int} {r : List (Int × Int × List Int)} (hq : 0 ≤ q ∧ q ≤ B - 1) (hd : d.length = 128) (hp : p.length < 2048) : runS B z p ((1, q, d) :: r) = runS B z (p ++ [(q, d)]) r := by
  have h : wC B p.length q d.length = 0 := wC_yes.2 ⟨decide_eq_true hq, hd, hp⟩
  simp only [runS, stC, stZ, stP, wP, h, if_true, show ¬ ((1 : Int) = 2) by decide, if_false]

theorem run_flush {B : Int} {z : List Int} {p : List (Int × List Int)} {q : Int} {d : List Int} {r : List (Int × Int × List Int)} : runS B z p ((2, q, d) :: r) = runS B (settle z p) [] r := by
  simp only [runS, stC, stZ, stP, if_true, show ¬ ((2 : Int) = 1) by decide, if_false]

theorem mk_run {B : Int} {zs z l t u : List Int} (hz : z.length = 128) (hl : l.length = 128) (ht : t.length = 128) (hu : u.length = 128) (hB : 8 ≤ B) : apS B zs [] (mkL z l t u) 8 = (mkD zs z l t u, [], 0) := by
  unfold apS mkL
  rw [if_neg (by simp), show upTo 8 _ = 8 from rfl, List.take_of_length_le (by simp)]
  rw [run_write ⟨by omega, by omega⟩ hz (by simp), run_write ⟨by omega, by omega⟩ hz (by simp), run_flush, run_write ⟨by omega, by omega⟩ hl (by simp), run_write ⟨by omega, by omega⟩ ht (by simp), run_flush, run_write ⟨by omega, by omega⟩ hu (by simp), run_flush]
  rfl
end Go.Proofs.YtpjdhfbeofdplaaGreatDoor

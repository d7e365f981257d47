import Derived.Test.YtpjdhfbeofdplaaGreatDoorDvc
import Derived.Test.YtpjdhfbeofdplaaGreatDoorSt1
namespace Go.Proofs.YtpjdhfbeofdplaaGreatDoor
open Go.RowKit
set_option linter.unusedVariables false

/-- the first k elements are laid in the new spine at block g0 -/
structure STo (w wr : World) (g0 : Nat) (ss : List (Int × Int × List Int)) (g : Nat → Nat) (k : Nat) : Prop where
  below : Below w.heap.size w wr
  base : w.heap.size ≤ g0
  spine : ∃ cur, wr.heap[g0]? = some (.cells cur 50 (0, 0)) ∧ cur.size = ss.length * 3
  els : ∀ i, i < k → g0 < g i ∧ g i < wr.heap.size ∧ SEl wr g0 0 (g i) i (ss.getD i (0, 0, []))
  inj : ∀ i j, i < k → j < k → g i = g j → i = j

theorem STo.lt {w wr : World} {g0 : Nat} {ss : List (Int × Int × List Int)} {g : Nat → Nat} {k : Nat} (h : STo w wr g0 ss g k) : g0 < wr.heap.size := by
  obtain ⟨cur, hc, _⟩ := h.spine
  by_cases hh : g0 < wr.heap.size
  · exact hh
  · simp [show wr.heap.size ≤ g0 by omega] at hc

theorem STo.cell {w wr : World} {g0 : Nat} {ss : List (Int × Int × List Int)} {g : Nat → Nat} {k : Nat} (h : STo w wr g0 ss g k) {w1 : World} (hb : Below wr.heap.size wr w1) (j : Nat) (hj : j < ss.length * 3) : (∃ x, w1.cell? ⟨g0, j, none⟩ = some x) ∧ w1.frozen? ⟨g0, j, none⟩ = false := by
  have hlt := h.lt
  obtain ⟨cur, hc, hs⟩ := h.spine
  rw [← hb.block g0 hlt] at hc
  constructor
  · rw [cell_of_row w1 g0 j cur _ (0, 0) hc]
    exact ⟨cur[j]'(by omega), by simp [hs, hj]⟩
  · exact frozen_of_row w1 g0 j cur _ hc

/-- three cells stored -/
abbrev put3 (w1 : World) (g0 k : Nat) (x y z : Value) : World := ((w1.setCell ⟨g0, k * 3, none⟩ x).setCell ⟨g0, k * 3 + 1, none⟩ y).setCell ⟨g0, k * 3 + 2, none⟩ z

theorem put3_same {w1 : World} {g0 k : Nat} {x y z a b c : Value} (h0 : w1.cell? ⟨g0, k * 3, none⟩ = some a) (h1 : w1.cell? ⟨g0, k * 3 + 1, none⟩ = some b) (h2 : w1.cell? ⟨g0, k * 3 + 2, none⟩ = some c) :
    (put3 w1 g0 k x y z).cell? ⟨g0, k * 3, none⟩ = some x ∧ (put3 w1 g0 k x y z).cell? ⟨g0, k * 3 + 1, none⟩ = some y ∧ (put3 w1 g0 k x y z).cell? ⟨g0, k * 3 + 2, none⟩ = some z := by
  refine ⟨?_, ?_, ?_⟩
  · rw [World.cell?_setCell_other _ _ _ _ (by simp), World.cell?_setCell_other _ _ _ _ (by simp)]
    exact World.cell?_setCell_same _ _ _ h0
  · rw [World.cell?_setCell_other _ _ _ _ (by simp)]
    exact World.cell?_setCell_same _ _ _ ((World.cell?_setCell_other _ _ _ _ (by simp)).trans h1)
  · exact World.cell?_setCell_same _ _ _ (((World.cell?_setCell_other _ _ _ _ (by simp)).trans (World.cell?_setCell_other _ _ _ _ (by simp))).trans h2)

theorem put3_far {w1 : World} {g0 k j : Nat} (x y z : Value) (hj : j < k * 3 ∨ k * 3 + 2 < j) : (put3 w1 g0 k x y z).cell? ⟨g0, j, none⟩ = w1.cell? ⟨g0, j, none⟩ := by
  rw [World.cell?_setCell_other _ _ _ _ (by intro hh; simp only [Addr.mk.injEq] at hh; omega), World.cell?_setCell_other _ _ _ _ (by intro hh; simp only [Addr.mk.injEq] at hh; omega), World.cell?_setCell_other _ _ _ _ (by intro hh; simp only [Addr.mk.injEq] at hh; omega)]

theorem put3_block {w1 : World} {g0 k q : Nat} (x y z : Value) (hq : q ≠ g0) : (put3 w1 g0 k x y z).heap[q]? = w1.heap[q]? :=
  (Below.heap_setCell _ _ _ _ hq).trans ((Below.heap_setCell _ _ _ _ hq).trans (Below.heap_setCell _ _ _ _ hq))

theorem put3_size (w1 : World) (g0 k : Nat) (x y z : Value) : (put3 w1 g0 k x y z).heap.size = w1.heap.size := by simp [put3]

theorem put3_frozen (w1 : World) (g0 k : Nat) (x y z : Value) (p : Addr) : (put3 w1 g0 k x y z).frozen? p = w1.frozen? p := by simp [put3]

theorem STo.step {w wr w1 : World} {g0 : Nat} {ss : List (Int × Int × List Int)} {g : Nat → Nat} {k : Nat} (h : STo w wr g0 ss g k) (hk : k < ss.length) (hb : Below wr.heap.size wr w1) {g1 dc : Nat} (h1 : wr.heap.size ≤ g1) (h2 : g1 < w1.heap.size)
    (ho : Own8 g1 (g1 + 1) w1 (.slice (some ⟨g1, 0, none⟩) (ss.getD k (0, 0, [])).2.2.length dc) (ss.getD k (0, 0, [])).2.2) :
    STo w (put3 w1 g0 k (.int .i64 (ss.getD k (0, 0, [])).1) (.int .i64 (ss.getD k (0, 0, [])).2.1) (.slice (some ⟨g1, 0, none⟩) (ss.getD k (0, 0, [])).2.2.length dc)) g0 ss (fun i => if i = k then g1 else g i) (k + 1) := by
  have hlt := h.lt
  have hbase := h.base
  obtain ⟨⟨x0, c0⟩, f0⟩ := h.cell hb (k * 3) (by omega)
  obtain ⟨⟨x1, c1⟩, f1⟩ := h.cell hb (k * 3 + 1) (by omega)
  obtain ⟨⟨x2, c2⟩, f2⟩ := h.cell hb (k * 3 + 2) (by omega)
  have hwsz := h.below.size
  have hbsz := hb.size
  have hsame := fun x y z => put3_same (x := x) (y := y) (z := z) c0 c1 c2
  refine ⟨?_, hbase, ?_, fun i hi => ?_, fun i j hi hj he => ?_⟩
  · exact (((h.below.trans (hb.mono hwsz)).setCell (p := ⟨g0, k * 3, none⟩) hbase _).setCell (p := ⟨g0, k * 3 + 1, none⟩) hbase _).setCell (p := ⟨g0, k * 3 + 2, none⟩) hbase _
  · obtain ⟨cur, hc, hs⟩ := h.spine
    rw [← hb.block g0 hlt] at hc
    have e1 := heap_setCell_same w1 g0 (k * 3) cur _ (.int .i64 (ss.getD k (0, 0, [])).1) hc
    have e2 := heap_setCell_same _ g0 (k * 3 + 1) _ _ (.int .i64 (ss.getD k (0, 0, [])).2.1) e1
    exact ⟨_, heap_setCell_same _ g0 (k * 3 + 2) _ _ _ e2, by simpa using hs⟩
  · by_cases hik : i = k
    · subst hik
      simp only [if_true]
      refine ⟨by omega, by rw [put3_size]; exact h2, some ⟨g1, 0, none⟩, dc, ?_, ?_, ?_, ?_, ?_, ?_⟩
      · rw [Nat.zero_add]; exact (hsame _ _ _).1
      · rw [Nat.zero_add]; exact (hsame _ _ _).2.1
      · rw [Nat.zero_add]; exact (hsame _ _ _).2.2
      · rw [Nat.zero_add, put3_frozen]; exact f0
      · rw [Nat.zero_add, put3_frozen]; exact f1
      · exact ho.kept (by rw [put3_size]; omega) fun q q1 q2 q3 => put3_block _ _ _ (by omega)
    · simp only [if_neg hik]
      obtain ⟨e1, e2, da, dc0, k1, k2, k3, k4, k5, k6⟩ := h.els i (by omega)
      refine ⟨e1, by rw [put3_size]; omega, da, dc0, ?_, ?_, ?_, ?_, ?_, ?_⟩
      · rw [put3_far _ _ _ (by omega), hb.cell (p := ⟨g0, 0 + i * 3, none⟩) hlt]; exact k1
      · rw [put3_far _ _ _ (by omega), hb.cell (p := ⟨g0, 0 + i * 3 + 1, none⟩) hlt]; exact k2
      · rw [put3_far _ _ _ (by omega), hb.cell (p := ⟨g0, 0 + i * 3 + 2, none⟩) hlt]; exact k3
      · rw [put3_frozen, hb.frozen (p := ⟨g0, 0 + i * 3, none⟩) hlt]; exact k4
      · rw [put3_frozen, hb.frozen (p := ⟨g0, 0 + i * 3 + 1, none⟩) hlt]; exact k5
      · exact k6.kept (by rw [put3_size]; omega) fun q q1 q2 q3 => (put3_block _ _ _ (by omega)).trans (hb.block q q3)
  · by_cases hik : i = k
    · by_cases hjk : j = k
      · omega
      · rw [if_pos hik, if_neg hjk] at he
        have := (h.els j (by omega)).2.1
        omega
    · by_cases hjk : j = k
      · rw [if_neg hik, if_pos hjk] at he
        have := (h.els i (by omega)).2.1
        omega
      · rw [if_neg hik, if_neg hjk] at he
        exact h.inj i j (by omega) (by omega) he

theorem STo.own {w wr : World} {g0 : Nat} {ss : List (Int × Int × List Int)} {g : Nat → Nat} (h : STo w wr g0 ss g ss.length) (cap : Nat) : SOwn g0 wr.heap.size wr (.slice (some ⟨g0, 0, none⟩) ss.length cap) ss := by
  refine ⟨_, cap, rfl, fun _ => ⟨g0, 0, rfl, Nat.le_refl _, h.lt, h.lt, g, fun i hi => ?_, h.inj⟩⟩
  obtain ⟨e1, e2, e3⟩ := h.els i hi
  exact ⟨by omega, by omega, by omega, e2, e3⟩

theorem STo.start (w : World) (ss : List (Int × Int × List Int)) (cur : Array Value) (hs : cur.size = ss.length * 3) : STo w (w.alloc (.cells cur 50)) w.heap.size ss (fun _ => 0) 0 :=
  ⟨(Below.refl _ _).alloc (Nat.le_refl _) _, Nat.le_refl _, ⟨cur, heap_alloc_new w _, hs⟩, fun _ hi => absurd hi (Nat.not_lt_zero _), fun _ _ hi => absurd hi (Nat.not_lt_zero _)⟩


theorem POff.of_S {S T : Nat → Prop} {w : World} {v : Value} {ps : List (Int × List Int)} (h : POwnS S w v ps) (hS : ∀ k, S k → ¬ T k) : POff T w v ps := by
  obtain ⟨a, cap, hv, hc⟩ := h
  refine ⟨a, cap, hv, fun hp => ?_⟩
  obtain ⟨b, off, ha, h1, h3, g, hg, hj⟩ := hc hp
  refine ⟨b, off, ha, hS b h1, fun i hi => ?_⟩
  obtain ⟨g1, g3, g4, da, dc, e1, e2, e3, e4⟩ := hg i hi
  refine ⟨da, dc, e1, e2, e4.bts, fun hpp => ?_⟩
  obtain ⟨a', c', hv', hx⟩ := e4.shape
  obtain ⟨b', off', ha', k1, k2, _⟩ := hx hpp
  simp only [Value.slice.injEq] at hv'
  rw [hv'.1, ha']
  obtain rfl : b' = g i := by omega
  exact ⟨_, _, _, rfl, hS _ g1⟩

/-- the code of a step, and what it leaves -/
def stC (B : Int) (n : Nat) (s : Int × Int × List Int) : Int := if s.1 = 1 then wC B n s.2.1 s.2.2.length else if s.1 = 2 then 0 else 5

def stZ (zs : List Int) (ps : List (Int × List Int)) (s : Int × Int × List Int) : List Int := if s.1 = 2 then settle zs ps else zs

def stP (B : Int) (ps : List (Int × List Int)) (s : Int × Int × List Int) : List (Int × List Int) := if s.1 = 1 then wP B ps s.2.1 s.2.2 else if s.1 = 2 then [] else ps

/-- a step at the device in box p, its disk in block g, its cache in blocks of S -/
structure Stt (S : Nat → Prop) (w : World) (p g : Nat) (B : Int) (u c : Value) (zs : List Int) (ps : List (Int × List Int)) : Prop where
  box : Box3 w p (.int .i64 B) u c 35
  disk : RowAt w g u zs
  cache : PRow S w c ps
  hp : ¬ S p
  hg : ¬ S g
  hpg : p ≠ g
  new : ∀ k, w.heap.size ≤ k → S k
  fits : Fits zs.length ps

theorem Stt.below {S : Nat → Prop} {w w' : World} {p g : Nat} {B : Int} {u c : Value} {zs : List Int} {ps : List (Int × List Int)} (h : Stt S w p g B u c zs ps) (k : Below w.heap.size w w') : Stt S w' p g B u c zs ps :=
  ⟨h.box.below k, h.disk.below k, h.cache.below k, h.hp, h.hg, h.hpg, fun q hq => h.new q (Nat.le_trans k.size hq), h.fits⟩

theorem fits_snoc {n : Nat} {ps : List (Int × List Int)} {B q : Int} {ds : List Int} (h : Fits n ps) (hB : (n : Int) = B * 128) (hq : inB q 0 (B - 1) = true) (hd : ds.length = 128) : Fits n (ps ++ [(q, ds)]) := fun i hi => by
  have hq' := of_decide_eq_true hq
  by_cases h1 : i < ps.length
  · rw [getD_snoc_lt _ _ _ h1]; exact h i h1
  · have h2 : i = ps.length := by simp at hi; omega
    subst h2
    rw [getD_snoc]
    refine ⟨hq'.1, ?_, hd⟩
    show (q.toNat + 1) * 128 ≤ n
    omega

set_option maxRecDepth 100000 in
set_option maxHeartbeats 2000000 in
theorem apply_any (S : Nat → Prop) (p g : Nat) (B : Int) (u c : Value) (zs : List Int) (ps : List (Int × List Int)) (kd q : Int) (ea : Option Addr) (ec : Nat) (ds : List Int) (w : World) (h : Stt S w p g B u c zs ps) (hB1 : 1 ≤ B) (hB2 : B ≤ 512) (hzB : (zs.length : Int) = B * 128) (hpl : ps.length ≤ 1048576) (hd : ds.length ≤ 1048576) (hv : Bts w (.slice ea ds.length ec) ds) :
    Calls Tryz.prog 32 #[.pointer (some ⟨p, 0, none⟩), .agg #[.int .i64 kd, .int .i64 q, .slice ea ds.length ec]] w fun e w' => ∃ c', e = .returned (.int .i64 (stC B ps.length (kd, q, ds))) ∧ Stt S w' p g B u c' (stZ zs ps (kd, q, ds)) (stP B ps (kd, q, ds)) ∧ Frm (fun k => S k ∨ k = p ∨ k = g) w w' := by
  have hbA := belowA w (.cells #[.int .i64 kd, .int .i64 q, .slice ea ds.length ec] 50)
  have hA := h.below hbA
  have hvA := hv.below hbA
  have hFA : Frm (fun k => S k ∨ k = p ∨ k = g) w _ := Frm.of_below hbA
  by_cases h1 : kd = 1
  · subst h1
    simp only [stC, stZ, stP, if_true, if_false, show ¬ ((1 : Int) = 2) by decide]
    go_enter Tryz.func32, Tryz.ntmps32
    go_wp2_with fail
    refine (write_any S p B q u c ea ec ds ps _ hA.box hA.cache hA.hp hA.new hB1 hB2 hd hpl hvA).mono ?_
    rintro e w1 ⟨c', rfl, hP1, hR1, hF1⟩
    have hS1 : Stt S w1 p g B u c' zs (wP B ps q ds) := by
      refine ⟨hP1, hA.disk.block (hF1.block g hA.disk.lt ?_), hR1, h.hp, h.hg, h.hpg, fun k hk => hA.new k (Nat.le_trans hF1.size hk), ?_⟩
      · rintro (e | e)
        · exact h.hg e
        · exact h.hpg e.symm
      · unfold wP
        split
        · rename_i hw
          obtain ⟨w1, w2, _⟩ := wC_yes.1 hw
          exact fits_snoc h.fits hzB w1 w2
        · exact h.fits
    have hF2 : Frm (fun k => S k ∨ k = p ∨ k = g) w w1 := hFA.trans (hF1.wider (fun k hk => by rcases hk with e | e; exact .inl e; exact .inr (.inl e)))
    clear hP1 hR1 hF1 hFA hvA hA hbA
    go_wp2
    go_ret
    exact ⟨c', rfl, hS1, hF2⟩
  · by_cases h2 : kd = 2
    · subst h2
      simp only [stC, stZ, stP, if_true, if_neg h1]
      obtain ⟨ca, cc, hc⟩ := hA.cache.form
      subst hc
      have hzl : zs.length ≤ 1048576 := by omega
      have hlen := settle_length zs ps h.fits ps.length (Nat.le_refl _)
      rw [List.take_length] at hlen
      go_enter Tryz.func32, Tryz.ntmps32
      go_wp2_with fail
      refine (flush_any p g B u ca cc zs ps _ hA.box hA.disk (POff.of_S hA.cache.own (fun k hk e => by rcases e with rfl | rfl; exact h.hg hk; exact h.hp hk)) h.hpg hzl hpl h.fits).mono ?_
      rintro e w1 ⟨rfl, hP1, hu1, hF1⟩
      have hS1 : Stt S w1 p g B u (.slice none 0 0) (settle zs ps) [] := ⟨hP1, hu1, PRow.nil _ _, h.hp, h.hg, h.hpg, fun k hk => hA.new k (Nat.le_trans hF1.size hk), fun i hi => by simp at hi⟩
      have hF2 : Frm (fun k => S k ∨ k = p ∨ k = g) w w1 := hFA.trans (hF1.wider (fun k hk => by rcases hk with e | e; exact .inr (.inr e); exact .inr (.inl e)))
      clear hP1 hu1 hF1 hFA hvA hA hbA hlen
      go_wp2
      go_ret
      exact ⟨_, rfl, hS1, hF2⟩
    · simp only [stC, stZ, stP, if_neg h1, if_neg h2]
      go_enter Tryz.func32, Tryz.ntmps32
      go_wp2
      go_ret
      exact ⟨c, rfl, hA, hFA⟩


/-- the steps one after another, till one is refused -/
def runS (B : Int) : List Int → List (Int × List Int) → List (Int × Int × List Int) → List Int × List (Int × List Int) × Int
  | z, p, [] => (z, p, 0)
  | z, p, s :: r => if stC B p.length s = 0 then runS B (stZ z p s) (stP B p s) r else (z, p, stC B p.length s)

/-- how many steps count lets by -/
def upTo (count : Int) (n : Nat) : Nat := (max 0 (min count n)).toNat

theorem upTo_le (count : Int) (n : Nat) : upTo count n ≤ n := by unfold upTo; omega

theorem stC_no {B : Int} {zs : List Int} {ps : List (Int × List Int)} {s : Int × Int × List Int} (h : ¬ stC B ps.length s = 0) : stZ zs ps s = zs ∧ stP B ps s = ps := by
  unfold stC at h
  unfold stZ stP
  by_cases h1 : s.1 = 1
  · rw [if_pos h1] at h
    rw [if_neg (by omega), if_pos h1]
    exact ⟨rfl, by unfold wP; rw [if_neg h]⟩
  · rw [if_neg h1] at h
    by_cases h2 : s.1 = 2
    · rw [if_pos h2] at h; exact absurd rfl h
    · rw [if_neg h2, if_neg h1, if_neg h2]; exact ⟨rfl, rfl⟩

theorem stP_len {B : Int} {ps : List (Int × List Int)} {s : Int × Int × List Int} (h : ps.length ≤ 2048) : (stP B ps s).length ≤ 2048 := by
  unfold stP wP
  split
  · split
    · rename_i h2
      have := (wC_yes.1 h2).2.2
      simp; omega
    · exact h
  · split
    · simp
    · exact h

theorem stZ_len {zs : List Int} {ps : List (Int × List Int)} {s : Int × Int × List Int} (h : Fits zs.length ps) : (stZ zs ps s).length = zs.length := by
  unfold stZ
  split
  · have := settle_length zs ps h ps.length (Nat.le_refl _)
    rwa [List.take_length] at this
  · rfl

theorem drop_el (ss : List (Int × Int × List Int)) (m k : Nat) (hk : k < m) (hm : m ≤ ss.length) : (ss.take m).drop k = ss.getD k (0, 0, []) :: (ss.take m).drop (k + 1) := by
  rw [List.drop_eq_getElem_cons (by simp; omega)]
  simp [show k < ss.length by omega]

/-- what DevApply answers: disk, cache, code -/
def apS (B : Int) (zs : List Int) (ps : List (Int × List Int)) (ss : List (Int × Int × List Int)) (count : Int) : List Int × List (Int × List Int) × Int :=
  if ss.length > 4096 then (zs, ps, 4) else runS B zs ps (ss.take (upTo count ss.length))

/-- out of the device at work: the answer -/
theorem Stt.fin {S : Nat → Prop} {w W : World} {p g r : Nat} {B : Int} {ua ca : Option Addr} {uc cc : Nat} {zs : List Int} {ps : List (Int × List Int)} (h : Stt S W p g B (.slice ua zs.length uc) (.slice ca ps.length cc) zs ps) (hb : Below w.heap.size w W) (hS : ∀ k, S k → w.heap.size ≤ k ∧ k ≠ g ∧ k ≠ r) (h3 : w.heap.size ≤ r) (h4 : r ≠ g) (h5 : w.heap.size ≤ g) (x y z : Value) :
    DOwnX w.heap.size (((W.setCell ⟨r, 0, none⟩ x).setCell ⟨r, 1, none⟩ y).setCell ⟨r, 2, none⟩ z).heap.size (((W.setCell ⟨r, 0, none⟩ x).setCell ⟨r, 1, none⟩ y).setCell ⟨r, 2, none⟩ z) (.agg #[.int .i64 B, .slice ua zs.length uc, .slice ca ps.length cc]) B zs ps ∧
      Below w.heap.size w (((W.setCell ⟨r, 0, none⟩ x).setCell ⟨r, 1, none⟩ y).setCell ⟨r, 2, none⟩ z) :=
  res_endX hb h.disk h.cache hS h3 h4 h5 x y z

set_option maxRecDepth 100000 in
set_option maxHeartbeats 4000000 in
theorem implApply_yes (count : Int) (sb scp : Nat) (ss : List (Int × Int × List Int)) (B : Int) (da ca : Option Addr) (dc cc : Nat) (zs : List Int) (ps : List (Int × List Int)) (w : World) (h : DRead w (.agg #[.int .i64 B, .slice da zs.length dc, .slice ca ps.length cc]) B zs ps) (hok : dOK B zs ps = true) (hv : SRead w (.slice (some ⟨sb, 0, none⟩) ss.length scp) ss) (hcp : ss.length ≤ scp) (hs : ss.length ≤ 1048576) (hsd : ∀ i, (ss.getD i (0, 0, [])).2.2.length ≤ 1048576) (hc1 : -9223372036854775808 ≤ count) (hc2 : count ≤ 9223372036854775807) :
    Calls Tryz.prog 16 #[.agg #[.int .i64 B, .slice da zs.length dc, .slice ca ps.length cc], .slice (some ⟨sb, 0, none⟩) ss.length scp, .int .i64 count] w fun e w' => ∃ xa xc ya yc, e = .returned (.tuple #[.agg #[.int .i64 B, .slice xa (apS B zs ps ss count).1.length xc, .slice ya (apS B zs ps ss count).2.1.length yc], .int .i64 (apS B zs ps ss count).2.2]) ∧ DOwnX w.heap.size w'.heap.size w' (.agg #[.int .i64 B, .slice xa (apS B zs ps ss count).1.length xc, .slice ya (apS B zs ps ss count).2.1.length yc]) B (apS B zs ps ss count).1 (apS B zs ps ss count).2.1 ∧ Below w.heap.size w w' := by
  obtain ⟨hB1, hB2, hzl, hpl, hel⟩ := dOK_out hok
  have hzl' : zs.length ≤ 1048576 := by omega
  have hel' : ∀ i, (ps.getD i (0, [])).2.length ≤ 1048576 := fun i => by
    by_cases hi : i < ps.length
    · have := of_decide_eq_true (hel i hi); omega
    · simp [hi]
  have hbel := fun o1 o2 => ((Below.refl w.heap.size w).alloc (Nat.le_refl _) o1).alloc (by simp) o2
  have hX := (Box3.made w (.int .i64 B) (.slice da zs.length dc) (.slice ca ps.length cc) 35 _ rfl).alloc (.cells #[.int .i64 0, .slice none 0 0, .slice none 0 0] 35)
  have hY := Box3.made (w.alloc (.cells #[.int .i64 B, .slice da zs.length dc, .slice ca ps.length cc] 35)) (.int .i64 0) (.slice none 0 0) (.slice none 0 0) 35 (w.heap.size + 1) (by simp)
  have hb0 := hbel (.cells #[.int .i64 B, .slice da zs.length dc, .slice ca ps.length cc] 35) (.cells #[.int .i64 0, .slice none 0 0, .slice none 0 0] 35)
  clear hbel
  go_enter Tryz.func16, Tryz.ntmps16
  go_wp2_with fail
  refine (valid_any B _ zs ps _ (h.below hb0) hzl' (by omega) hel').mono ?_
  rintro e w1 ⟨rfl, hb1⟩
  have hX1 := hX.below hb1
  have hY1 := hY.below hb1
  have hs1 : w.heap.size + 1 + 1 ≤ w1.heap.size := by have := hb1.size; simpa using this
  have hbel1 := hb0.trans (hb1.mono hb0.size)
  obtain ⟨c0, c1, c2⟩ := hX1.cells
  clear hX hY hb1 hb0
  go_wp2_with fail
  refine (fresh_row B da ca dc cc zs ps _ (h.below hbel1) hok).mono ?_
  rintro e w2 ⟨u, g, g0, rfl, hg0, hgg, hu, hO, hb2, cur, hsp, hcs⟩
  have hY2 := hY1.below hb2
  have hbel2 := hbel1.trans (hb2.mono hbel1.size)
  have hs2 := hb2.size
  obtain ⟨uc, rfl, huc⟩ := hu.form
  have hgl := hu.lt
  have hR2 : PRow (fun k => g0 ≤ k ∧ k ≠ g ∧ k ≠ w2.heap.size) w2 _ ps := PRow.of_own hO hsp hcs (by omega) (fun k k1 k2 => ⟨k1, by omega, by omega⟩) hgg
  clear c0 c1 c2 hX1 hY1 hb2 hbel1 hO hsp hcs
  have hb3 := belowA w2 (.cells #[.int .i64 B, .slice (some ⟨g, 0, none⟩) zs.length uc, .slice (some ⟨g0, 0, none⟩) ps.length ps.length] 35)
  have hP3 := Box3.made w2 (.int .i64 B) (.slice (some ⟨g, 0, none⟩) zs.length uc) (.slice (some ⟨g0, 0, none⟩) ps.length ps.length) 35 _ rfl
  have hS3 : Stt (fun k => g0 ≤ k ∧ k ≠ g ∧ k ≠ w2.heap.size) _ w2.heap.size g B _ _ zs ps := ⟨hP3, hu.below hb3, hR2.below hb3, by omega, by omega, by omega, fun k hk => by simp at hk; omega, fits_of_ok hok⟩
  have hY3 := hY2.below hb3
  have hbel3 := hbel2.trans (hb3.mono hbel2.size)
  clear hu hR2 hY2 hb3 hbel2 hP3
  have hSr : ∀ k, (g0 ≤ k ∧ k ≠ g ∧ k ≠ w2.heap.size) → w.heap.size ≤ k ∧ k ≠ g ∧ k ≠ w.heap.size + 1 := fun k hk => by omega
  by_cases hn : ss.length > 4096
  · have hn' : (4096 : Int) < (ss.length : Int) := by omega
    have HE : Hid (apS B zs ps ss count = (zs, ps, 4)) := by unfold apS; rw [if_pos hn]; rfl
    obtain ⟨p0, p1, p2⟩ := hS3.box.cells
    obtain ⟨y0, y1, y2⟩ := hY3.cells
    have hfr := hY3.free
    have hend := hS3.fin (r := w.heap.size + 1) hbel3 hSr (by omega) (by omega) (by omega)
    clear hS3 hY3 hv
    go_wp2
    refine bodyPost_ret (v := .tuple #[.agg #[.int .i64 B, .slice (some ⟨g, 0, none⟩) zs.length uc, .slice (some ⟨g0, 0, none⟩) ps.length ps.length], .int .i64 4]) (by simp [results, Tryz.results16, go_sem, y0, y1, y2]) rfl ?_
    rw [HE.out]
    exact ⟨_, _, _, _, rfl, (hend _ _ _).1, (hend _ _ _).2⟩
  · have hn' : ¬ (4096 : Int) < (ss.length : Int) := by omega
    have hn4 : ss.length ≤ 4096 := by omega
    obtain ⟨m, hmm⟩ : ∃ m, m = upTo count ss.length := ⟨_, rfl⟩
    obtain ⟨mn, hmin⟩ : ∃ mn, (if (ss.length : Int) < count then (ss.length : Int) else count) = mn := ⟨_, rfl⟩
    have hmax : (if 0 < mn then mn else 0) = (m : Int) := by
      rw [hmm, ← hmin]; unfold upTo; split <;> split <;> omega
    have hmn : m ≤ ss.length := by rw [hmm]; exact upTo_le _ _
    have hmi : (m : Int) ≤ (scp : Int) := by omega
    have HM : Hid (m = upTo count ss.length) := hmm
    clear hmm
    go_wp2_with fail
    have HE : Hid (apS B zs ps ss count = runS B zs ps (ss.take m)) := by unfold apS; rw [if_neg hn, HM.out]; rfl
    clear hmin hmax hn' hn HM hc1 hc2
    go_loopw [11, 12, 32] (fun _ _ i wr => ∃ (k : Nat) (z' : List Int) (p' : List (Int × List Int)) (c : Value), k ≤ m ∧ i = .int .i64 k ∧ Stt (fun k => g0 ≤ k ∧ k ≠ g ∧ k ≠ w2.heap.size) wr w2.heap.size g B (.slice (some ⟨g, 0, none⟩) zs.length uc) c z' p' ∧ z'.length = zs.length ∧ p'.length ≤ 2048 ∧ runS B zs ps (ss.take m) = runS B z' p' ((ss.take m).drop k) ∧ Box3 wr (w.heap.size + 1) (.int .i64 0) (.slice none 0 0) (.slice none 0 0) 35 ∧ Below w.heap.size w wr) (fun _ _ i _ => m - (intOf i).toNat)
    case atStart => exact ⟨0, zs, ps, _, Nat.zero_le _, rfl, hS3, rfl, hpl, rfl, hY3, hbel3⟩
    case round =>
      obtain ⟨k, z', p', c, hk, rfl, hS, hzz, hpp, hrun, hYr, hbr⟩ := hrel
      by_cases hlt : k < m
      · obtain ⟨_, _, he, hvc⟩ := hv
        simp only [Value.slice.injEq, true_and] at he
        obtain ⟨rfl, rfl⟩ := he
        obtain ⟨b, off, he, hcell⟩ := hvc (by omega)
        simp only [Option.some.injEq, Addr.mk.injEq, and_true] at he
        obtain ⟨rfl, rfl⟩ := he
        obtain ⟨ea, ec, g1, g2, g3, g4⟩ := hcell k (by omega)
        have hbw : sb < w.heap.size := World.block_lt_of_cell? _ _ g1
        rw [← hbr.cell (p := ⟨sb, 0 + k * 3, none⟩) hbw] at g1
        rw [← hbr.cell (p := ⟨sb, 0 + k * 3 + 1, none⟩) hbw] at g2
        rw [← hbr.cell (p := ⟨sb, 0 + k * 3 + 2, none⟩) hbw] at g3
        simp only [Nat.zero_add] at g1 g2 g3
        have g5 := g4.below hbr
        have hdk := hsd k
        have hdr := drop_el ss m k hlt hmn
        have hki : (k : Int) < (m : Int) := by omega
        clear hcell g4 hvc
        generalize ss.getD k (0, 0, []) = el at g1 g2 g3 g5 hdk hdr
        obtain ⟨kd, q, ds⟩ := el
        simp only at g1 g2 g3 g5 hdk hdr
        have hbA := belowA wr (.cells #[.int .i64 kd, .int .i64 q, .slice ea ds.length ec] 50)
        have hSA := hS.below hbA
        have hvA := g5.below hbA
        have hYA := hYr.below hbA
        have hbelA := hbr.trans (hbA.mono hbr.size)
        have hzB : (z'.length : Int) = B * 128 := by omega
        rw [hdr] at hrun
        simp only [runS] at hrun
        have HR : Hid (runS B zs ps (ss.take m) = if stC B p'.length (kd, q, ds) = 0 then runS B (stZ z' p' (kd, q, ds)) (stP B p' (kd, q, ds)) ((ss.take m).drop (k + 1)) else (z', p', stC B p'.length (kd, q, ds))) := hrun
        have hzn := stZ_len (s := (kd, q, ds)) hS.fits
        have hpn := stP_len (B := B) (s := (kd, q, ds)) hpp
        have HZ : Hid ((stZ z' p' (kd, q, ds)).length = zs.length) := hzn.trans hzz
        have HZZ : Hid (z'.length = zs.length) := hzz
        clear hrun hdr hbA hS hYr hbr g5 hzn hzz
        by_cases hc0 : stC B p'.length (kd, q, ds) = 0
        · have HC : Hid (stC B p'.length (kd, q, ds) = 0) := hc0
          clear hc0
          go_wp2_with fail
          refine (apply_any _ _ g B _ _ z' p' kd q ea ec ds _ hSA (by omega) hB2 hzB (by omega) hdk hvA).mono ?_
          rintro e w3 ⟨c3, rfl, hS4, hF4⟩
          rw [HC.out]
          have hY4 : Box3 w3 (w.heap.size + 1) (.int .i64 0) (.slice none 0 0) (.slice none 0 0) 35 := (hF4.block _ hYA.lt (by omega)).trans hYA
          have hbel4 := hbelA.trans (hF4.below hbelA.size (fun k hk => by omega))
          have HR2 := HR.out
          rw [if_pos HC.out] at HR2
          have HR3 : Hid (runS B zs ps (ss.take m) = runS B (stZ z' p' (kd, q, ds)) (stP B p' (kd, q, ds)) ((ss.take m).drop (k + 1))) := HR2
          clear HR2 hF4 hYA hbelA hSA hvA g1 g2 g3
          go_wp2
          go_roundw
          case rel => exact ⟨k + 1, _, _, _, by omega, by go_num, hS4, HZ.out, hpn, HR3.out, hY4, hbel4⟩
          case measure => simp [intOf]; omega
        · have HC : Hid (¬ stC B p'.length (kd, q, ds) = 0) := hc0
          have hne : (stC B p'.length (kd, q, ds) != 0) = true := by simp [hc0]
          clear hc0
          go_wp2_with fail
          refine (apply_any _ _ g B _ _ z' p' kd q ea ec ds _ hSA (by omega) hB2 hzB (by omega) hdk hvA).mono ?_
          rintro e w3 ⟨c3, rfl, hS4, hF4⟩
          obtain ⟨hz5, hp5⟩ := stC_no (zs := z') HC.out
          rw [hz5, hp5] at hS4
          obtain ⟨ca3, cc3, rfl⟩ := hS4.cache.form
          have hY4 : Box3 w3 (w.heap.size + 1) (.int .i64 0) (.slice none 0 0) (.slice none 0 0) 35 := (hF4.block _ hYA.lt (by omega)).trans hYA
          have hbel4 := hbelA.trans (hF4.below hbelA.size (fun k hk => by omega))
          have HE2 := HE.out
          rw [HR.out, if_neg HC.out] at HE2
          have HE3 : Hid (apS B zs ps ss count = (z', p', stC B p'.length (kd, q, ds))) := HE2
          have hS5 : Stt (fun k => g0 ≤ k ∧ k ≠ g ∧ k ≠ w2.heap.size) w3 w2.heap.size g B (.slice (some ⟨g, 0, none⟩) z'.length uc) (.slice ca3 p'.length cc3) z' p' := by rw [HZZ.out]; exact hS4
          have hend := hS5.fin (r := w.heap.size + 1) hbel4 hSr (by omega) (by omega) (by omega)
          obtain ⟨p0, p1, p2⟩ := hS5.box.cells
          obtain ⟨y0, y1, y2⟩ := hY4.cells
          have hfr := hY4.free
          clear HE2 hz5 hp5 hF4 hYA hbelA hSA hvA g1 g2 g3 hS4 hS5 hY4
          go_wp2
          refine bodyPost_ret (v := .tuple #[.agg #[.int .i64 B, .slice (some ⟨g, 0, none⟩) z'.length uc, .slice ca3 p'.length cc3], .int .i64 (stC B p'.length (kd, q, ds))]) (by simp [results, Tryz.results16, go_sem, y0, y1, y2]) rfl ?_
          rw [HE3.out]
          exact ⟨_, _, _, _, rfl, (hend _ _ _).1, (hend _ _ _).2⟩
      · obtain rfl : k = m := by omega
        have HE3 : Hid (apS B zs ps ss count = (z', p', 0)) := by
          have := HE.out
          rw [hrun, List.drop_eq_nil_of_le (by simp; omega)] at this
          exact this
        obtain ⟨ca3, cc3, rfl⟩ := hS.cache.form
        have hS5 : Stt (fun k => g0 ≤ k ∧ k ≠ g ∧ k ≠ w2.heap.size) wr w2.heap.size g B (.slice (some ⟨g, 0, none⟩) z'.length uc) (.slice ca3 p'.length cc3) z' p' := by rw [hzz]; exact hS
        have hend := hS5.fin (r := w.heap.size + 1) hbr hSr (by omega) (by omega) (by omega)
        obtain ⟨p0, p1, p2⟩ := hS5.box.cells
        obtain ⟨y0, y1, y2⟩ := hYr.cells
        have hfr := hYr.free
        clear hS hS5 hYr hrun hzz
        go_wp2
        refine bodyPost_ret (v := .tuple #[.agg #[.int .i64 B, .slice (some ⟨g, 0, none⟩) z'.length uc, .slice ca3 p'.length cc3], .int .i64 0]) (by simp [results, Tryz.results16, go_sem, y0, y1, y2]) rfl ?_
        rw [HE3.out]
        exact ⟨_, _, _, _, rfl, (hend _ _ _).1, (hend _ _ _).2⟩


/-- the bytes zs lie in block g from off on, and may be written -/
structure Dsk (w : World) (g off : Nat) (zs : List Int) : Prop where
  small : ∀ i, 0 ≤ zs.getD i 0 ∧ zs.getD i 0 < 256
  cell : ∀ i, i < zs.length → w.cell? ⟨g, off + i, none⟩ = some (.int .u8 (zs.getD i 0)) ∧ w.frozen? ⟨g, off + i, none⟩ = false

theorem Dsk.block {w w' : World} {g off : Nat} {zs : List Int} (h : Dsk w g off zs) (hb : w'.heap[g]? = w.heap[g]?) : Dsk w' g off zs :=
  ⟨h.small, fun i hi => ⟨(World.cell?_of_block (a := ⟨g, off + i, none⟩) hb).trans (h.cell i hi).1, (World.frozen?_of_block (a := ⟨g, off + i, none⟩) hb).trans (h.cell i hi).2⟩⟩

theorem Dsk.set {w : World} {g off : Nat} {zs : List Int} (h : Dsk w g off zs) (j : Nat) (hj : j < zs.length) (v : Int) (hv : 0 ≤ v ∧ v < 256) : Dsk (w.setCell ⟨g, off + j, none⟩ (.int .u8 v)) g off (zs.set j v) := by
  have hget : ∀ i, (zs.set j v).getD i 0 = if i = j then v else zs.getD i 0 := fun i => by
    simp only [List.getD_eq_getElem?_getD, List.getElem?_set]
    by_cases hij : j = i
    · subst hij; simp [hj]
    · rw [if_neg hij, if_neg (fun e => hij e.symm)]
  refine ⟨fun i => ?_, fun i hi => ?_⟩
  · rw [hget]; split
    · exact hv
    · exact h.small i
  · rw [List.length_set] at hi
    rw [hget]
    refine ⟨?_, by simpa using (h.cell i hi).2⟩
    by_cases hij : i = j
    · subst hij; rw [if_pos rfl]; exact World.cell?_setCell_same _ _ _ (h.cell i hi).1
    · rw [if_neg hij, World.cell?_setCell_other _ _ _ _ (by intro hh; simp only [Addr.mk.injEq] at hh; omega)]
      exact (h.cell i hi).1

theorem Dsk.of_own {w : World} {g : Nat} {ua : Option Addr} {uc : Nat} {zs : List Int} (h : Own8 g (g + 1) w (.slice ua zs.length uc) zs) (hp : 0 < zs.length) : ∃ off, ua = some ⟨g, off, none⟩ ∧ Dsk w g off zs := by
  obtain ⟨a, cap, hv, hc⟩ := h.shape
  simp only [Value.slice.injEq, true_and] at hv
  obtain ⟨rfl, rfl⟩ := hv
  obtain ⟨b, off, ha, h1, h2, h3, h4⟩ := hc hp
  obtain rfl : b = g := by omega
  exact ⟨off, ha, h.small, h4⟩

theorem Dsk.own {w : World} {g off uc : Nat} {zs : List Int} (h : Dsk w g off zs) (hg : g < w.heap.size) : Own8 g (g + 1) w (.slice (some ⟨g, off, none⟩) zs.length uc) zs :=
  ⟨h.small, _, _, rfl, fun _ => ⟨g, off, rfl, Nat.le_refl _, Nat.lt_succ_self _, hg, h.cell⟩⟩

/-- x bytes of ds are laid into block q of D -/
def pt (D : List Int) (q : Nat) (ds : List Int) : Nat → List Int
  | 0 => D
  | x + 1 => (pt D q ds x).set (q * 128 + x) (ds.getD x 0)

theorem pt_length (D : List Int) (q : Nat) (ds : List Int) (x : Nat) : (pt D q ds x).length = D.length := by
  induction x with
  | zero => rfl
  | succ x ih => simp [pt, ih]

theorem pt_get (D : List Int) (q : Nat) (ds : List Int) (x : Nat) (h : q * 128 + x ≤ D.length) (i : Nat) : (pt D q ds x).getD i 0 = if q * 128 ≤ i ∧ i < q * 128 + x then ds.getD (i - q * 128) 0 else D.getD i 0 := by
  induction x with
  | zero => rw [if_neg (by omega)]; rfl
  | succ x ih =>
    have hi := ih (by omega)
    simp only [pt, List.getD_eq_getElem?_getD, List.getElem?_set] at hi ⊢
    by_cases he : q * 128 + x = i
    · subst he
      have := pt_length D q ds x
      rw [if_pos rfl, if_pos (by omega), if_pos (by omega)]
      simp
    · rw [if_neg he]
      rw [hi]
      by_cases hc : q * 128 ≤ i ∧ i < q * 128 + x
      · rw [if_pos hc, if_pos (by omega)]
      · rw [if_neg hc, if_neg (by omega)]

theorem pt_all (D : List Int) (q : Nat) (ds : List Int) (hl : ds.length = 128) (hq : (q + 1) * 128 ≤ D.length) : pt D q ds 128 = patch D q ds := by
  have h1 := pt_length D q ds 128
  have h2 := patch_length D q ds hl hq
  refine List.ext_getElem (by omega) fun i hi hj => ?_
  have e1 := pt_get D q ds 128 (by omega) i
  have e2 := patch_get D q ds hl hq i
  rw [← e2] at e1
  simpa [hi, hj] using e1
end Go.Proofs.YtpjdhfbeofdplaaGreatDoor

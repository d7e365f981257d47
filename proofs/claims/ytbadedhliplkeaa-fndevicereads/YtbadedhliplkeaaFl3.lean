import Derived.Test.YtbadedhliplkeaaFl2
import Derived.Deep.RegionLaw
namespace Go.Proofs.Ytbadedhliplkeaa
open Go.RowKit

/-- block q of the disk replaced -/
def patch (zs : List Int) (q : Nat) (ds : List Int) : List Int := zs.take (q * 128) ++ (ds ++ zs.drop (q * 128 + ds.length))

/-- a copy of bytes into a row, as one step of a region -/
theorem step_copy8 {ops : Array Oper} {o : Oper} {a : Act} {w : World} {K : Act → World → Prop} {Q : Exit → Act → World → Prop} {E : Prop} {g off : Nat} {cur : Array Value} (hgw : w.heap[g]? = some (.cells cur 5 (0, 0))) {ad : Addr} {ds : List Int} (hsrc : ∀ j, j < ds.length → w.cell? (ad.add j) = some (.int .u8 (ds.getD j 0))) (hfit : off + ds.length ≤ cur.size)
    (hg : o.guard = none ∧ ∃ d s dp dLen dCap sLen sCap, o.op = .call { callee := .builtin .copy, args := #[d, s], argTypes := #[22, 22] } ∧ a.eval d = .slice dp dLen dCap ∧ a.eval s = .slice (some ad) sLen sCap ∧ dp = some ⟨g, off, none⟩ ∧ ds.length = Nat.min sLen dLen)
    (h : K (a.put o.dst (goInt ds.length)) (w.setRow g (cur.toList.take off ++ (ds.map (Value.int .u8)) ++ cur.toList.drop (off + ds.length)).toArray)) :
    if Region.wanted o (yielded ops a.tmps) = true then Oper.wp Try.prog o a w K Q else E := by
  obtain ⟨hgd, d, s, dp, dLen, dCap, sLen, sCap, ho, hd, hs, rfl, hn⟩ := hg
  have hw : Region.wanted o (yielded ops a.tmps) = true := by simp [Region.wanted, hgd]
  rw [if_pos hw]
  have hsz : (Try.prog.info? 5).map (·.size) = some 1 := by kernel_rfl
  have hrun := run_copy_row (P := Try.prog) w 22 22 o.type 5 g off dLen dCap ad sLen sCap cur 5 (ds.map (Value.int .u8)) Try.underlying22 hsz hgw (by simpa using hn)
    (fun j v hv => by
      have hj : j < ds.length := by
        by_cases hh : j < ds.length
        · exact hh
        · simp [show ds.length ≤ j by omega] at hv
      rw [hsrc j hj]
      simp only [List.getElem?_map, List.getElem?_eq_getElem hj, Option.map_some, Option.some.injEq] at hv
      rw [← hv]; simp [hj])
    (by simpa using hfit) (fun v hv => by
      simp only [List.mem_map] at hv
      obtain ⟨z, _, rfl⟩ := hv
      rfl)
  simp only [List.length_map] at hrun
  unfold Oper.wp
  simp only [execOp, ho, resolve, invoke, builtin, Sem.run_bind, Sem.run_pure, Result.andThen_ok, List.map_toArray, List.map_cons, List.map_nil, hd, hs, hrun]
  exact h

theorem patch_length (zs : List Int) (q : Nat) (ds : List Int) (hl : ds.length = 128) (hq : (q + 1) * 128 ≤ zs.length) : (patch zs q ds).length = zs.length := by
  simp [patch, hl]; omega

theorem patch_get (zs : List Int) (q : Nat) (ds : List Int) (hl : ds.length = 128) (hq : (q + 1) * 128 ≤ zs.length) (i : Nat) : (patch zs q ds).getD i 0 = if q * 128 ≤ i ∧ i < q * 128 + 128 then ds.getD (i - q * 128) 0 else zs.getD i 0 := by
  simp only [patch, List.getD_eq_getElem?_getD, List.getElem?_append, List.length_take, List.getElem?_take, List.getElem?_drop, hl]
  rw [show min (q * 128) zs.length = q * 128 by omega]
  by_cases h1 : i < q * 128
  · rw [if_pos h1, if_pos h1, if_neg (by omega)]
  · rw [if_neg h1]
    by_cases h2 : i - q * 128 < 128
    · rw [if_pos h2, if_pos (by omega)]
    · rw [if_neg h2, if_neg (by omega), show q * 128 + 128 + (i - q * 128 - 128) = i by omega]

theorem patch_small {zs ds : List Int} {q : Nat} (hl : ds.length = 128) (hq : (q + 1) * 128 ≤ zs.length) (h : ∀ i, 0 ≤ zs.getD i 0 ∧ zs.getD i 0 < 256) (h' : ∀ i, 0 ≤ ds.getD i 0 ∧ ds.getD i 0 < 256) (i : Nat) : 0 ≤ (patch zs q ds).getD i 0 ∧ (patch zs q ds).getD i 0 < 256 := by
  rw [patch_get zs q ds hl hq i]
  split
  · exact h' _
  · exact h _

theorem setRow_row {w : World} {g cap : Nat} {cur : Array Value} {zs ds : List Int} {q : Nat} (hg : w.heap[g]? = some (.cells cur 5 (0, 0))) (h3 : zs.length ≤ cap) (h4 : cap ≤ maxLen) (h5 : cur.size = cap) (h6 : cur.toList.take zs.length = zs.map (Value.int .u8)) (hl : ds.length = 128) (hq : (q + 1) * 128 ≤ zs.length)
    (hs : ∀ i, 0 ≤ zs.getD i 0 ∧ zs.getD i 0 < 256) (hd : ∀ i, 0 ≤ ds.getD i 0 ∧ ds.getD i 0 < 256) :
    RowAt (w.setRow g (cur.toList.take (q * 128) ++ (ds.map (Value.int .u8)) ++ cur.toList.drop (q * 128 + ds.length)).toArray) g (.slice (some ⟨g, 0, none⟩) zs.length cap) (patch zs q ds) := by
  refine ⟨⟨cap, _, by rw [patch_length zs q ds hl hq], setRow_heap w g cur _ _ _ hg, by rw [patch_length zs q ds hl hq]; exact h3, h4, by simp [h5]; omega, ?_⟩, patch_small hl hq hs hd⟩
  rw [patch_length zs q ds hl hq]
  apply List.ext_getElem?
  intro i
  have e : ∀ j, j < zs.length → cur.toList[j]? = some (.int .u8 (zs.getD j 0)) := fun j hj => by
    have : (cur.toList.take zs.length)[j]? = (zs.map (Value.int .u8))[j]? := by rw [h6]
    rw [List.getElem?_take, if_pos hj] at this
    rw [this]; simp [hj]
  by_cases hi : i < zs.length
  · rw [List.getElem?_take, if_pos hi, List.getElem?_map]
    have hpi : (patch zs q ds)[i]? = some ((patch zs q ds).getD i 0) := by
      rw [List.getD_eq_getElem?_getD, List.getElem?_eq_getElem (by rw [patch_length zs q ds hl hq]; exact hi)]; rfl
    rw [hpi, patch_get zs q ds hl hq i]
    simp only [List.append_assoc, List.getElem?_append, List.length_take, Array.length_toList, List.length_map, List.getElem?_take, List.getElem?_drop, List.getElem?_map, hl, Option.map_some]
    rw [show min (q * 128) cur.size = q * 128 by omega]
    by_cases h1 : i < q * 128
    · rw [if_pos h1, if_pos h1, if_neg (by omega), e i hi]
    · rw [if_neg h1]
      by_cases h2 : i - q * 128 < 128
      · rw [if_pos h2, if_pos (by omega), List.getElem?_eq_getElem (by omega)]
        simp [show i - q * 128 < ds.length by omega]
      · rw [if_neg h2, if_neg (by omega), show q * 128 + 128 + (i - q * 128 - 128) = i by omega, e i hi]
  · rw [List.getElem?_take, if_neg hi, List.getElem?_map, List.getElem?_eq_none (by rw [patch_length zs q ds hl hq]; omega)]; rfl

theorem Frm.setRow (w : World) (g : Nat) (cs : Array Value) : Frm (fun k => k = g) w (w.setRow g cs) :=
  ⟨rfl, rfl, rfl, by simp [World.setRow], fun k _ hn => setRow_other w g k cs hn⟩

set_option maxHeartbeats 1000000 in
theorem putBlock_any (g q : Nat) (u : Value) (zs ds : List Int) (w : World) (hu : RowAt w g u zs) (hl : ds.length = 128) (hd : ∀ i, 0 ≤ ds.getD i 0 ∧ ds.getD i 0 < 256) (hq : (q + 1) * 128 ≤ zs.length) (hn : zs.length ≤ 1048576) :
    Calls Try.prog 61 #[u, .int .i64 q, .agg (u8s ds)] w fun e w' => e = .returned (.tuple #[]) ∧ RowAt w' g u (patch zs q ds) ∧ Frm (fun k => k = g) w w' := by
  have hlt := hu.lt
  have hsm := hu.small
  obtain ⟨cap, cur, rfl, h2, h3, h4, h5, h6⟩ := hu.shape
  have h2' : (w.alloc (.cells (u8s ds) 76)).heap[g]? = some (.cells cur 5 (0, 0)) := ((belowA w _).block g hlt).trans h2
  have hsrc : ∀ j, j < ds.length → (w.alloc (.cells (u8s ds) 76)).drew.cell? ((⟨w.heap.size, 0, none⟩ : Addr).add j) = some (.int .u8 (ds.getD j 0)) := fun j hj => by
    rw [Addr.add_mid]; exact (rng_new w ds hl 76 w.heap.size rfl).2 j (by omega)
  have hfit : q * 128 + ds.length ≤ cur.size := by omega
  have h1 : (q : Int) * 128 + 128 ≤ cap := by omega
  have hR := setRow_row (w := (w.alloc (.cells (u8s ds) 76)).drew) h2' h3 h4 h5 h6 hl hq hsm hd
  have hF := (Frm.of_below (S := fun k => k = g) ((belowA w (.cells (u8s ds) 76)).drew)).trans (Frm.setRow _ g (cur.toList.take (q * 128) ++ (ds.map (Value.int .u8)) ++ cur.toList.drop (q * 128 + ds.length)).toArray)
  have hw1 : IntKind.i64.wrap ((q : Int) * 128 + 128) = (q : Int) * 128 + 128 := IntWalk.i64_in _ ⟨by omega, by omega⟩
  have b0 : (0 : Int) ≤ (q : Int) * 128 := by omega
  have b1 : (q : Int) * 128 ≤ (q : Int) * 128 + 128 := by omega
  have b2 : (0 : Int) ≤ (q : Int) * 128 + 128 := by omega
  have HDP : Hid ((if cap = ((q : Int) * 128).toNat then some (⟨g, 0, none⟩ : Addr) else some ⟨g, ((q : Int) * 128).toNat, none⟩) = some ⟨g, q * 128, none⟩) := by
    rw [if_neg (by omega), show ((q : Int) * 128).toNat = q * 128 by omega]; rfl
  have HLN : Hid (ds.length = Nat.min 128 (((q : Int) * 128 + 128).toNat - ((q : Int) * 128).toNat)) := by
    rw [show ((q : Int) * 128).toNat = q * 128 by omega, show ((q : Int) * 128 + 128).toNat = q * 128 + 128 by omega, hl, show q * 128 + 128 - q * 128 = 128 by omega]; rfl
  clear h2 h6 hsm
  go_enter Try.func61, Try.ntmps61
  go_wp2
  go_region_held3 (fun _ => True) (exact True.intro) ((refine step_copy8 (off := q * 128) h2' hsrc hfit ?_ ?_; exact ⟨rfl, _, _, _, _, _, _, _, rfl, rfl, rfl, HDP.out, HLN.out⟩))
  simp only [List.append_assoc, hl] at hR hF
  go_wp2
  go_end0
  exact ⟨rfl, hR, hF⟩

/-- the bytes lie in a block out of S -/
structure BtsOff (S : Nat → Prop) (w : World) (v : Value) (zs : List Int) : Prop where
  bts : Bts w v zs
  off : 0 < zs.length → ∃ a n c, v = .slice (some a) n c ∧ ¬ S a.block

/-- the cache lies in blocks out of S -/
def POff (S : Nat → Prop) (w : World) (v : Value) (ps : List (Int × List Int)) : Prop :=
  ∃ a cap, v = .slice a ps.length cap ∧ (0 < ps.length → ∃ b off, a = some ⟨b, off, none⟩ ∧ ¬ S b ∧ ∀ i, i < ps.length → ∃ da dc, w.cell? ⟨b, off + i * 2, none⟩ = some (.int .i64 (ps.getD i (0, [])).1) ∧ w.cell? ⟨b, off + i * 2 + 1, none⟩ = some (.slice da (ps.getD i (0, [])).2.length dc) ∧ BtsOff S w (.slice da (ps.getD i (0, [])).2.length dc) (ps.getD i (0, [])).2)

theorem BtsOff.frm {S : Nat → Prop} {w w' : World} {v : Value} {zs : List Int} (h : BtsOff S w v zs) (k : Frm S w w') : BtsOff S w' v zs := by
  refine ⟨⟨h.bts.small, ?_⟩, h.off⟩
  obtain ⟨a, cap, hv, hc⟩ := h.bts.shape
  refine ⟨a, cap, hv, fun hp => ?_⟩
  obtain ⟨b, off, ha, hcell⟩ := hc hp
  obtain ⟨a', n, c, hv', hs⟩ := h.off hp
  rw [hv, ha] at hv'
  simp only [Value.slice.injEq, Option.some.injEq] at hv'
  rw [← hv'.1] at hs
  refine ⟨b, off, ha, fun i hi => ?_⟩
  rw [World.cell?_of_block (w := w) (w' := w') (a := ⟨b, off + i, none⟩) (k.block b (World.block_lt_of_cell? _ _ (hcell i hi)) hs)]
  exact hcell i hi

theorem POff.frm {S : Nat → Prop} {w w' : World} {v : Value} {ps : List (Int × List Int)} (h : POff S w v ps) (k : Frm S w w') : POff S w' v ps := by
  obtain ⟨a, cap, hv, hc⟩ := h
  refine ⟨a, cap, hv, fun hp => ?_⟩
  obtain ⟨b, off, ha, hs, hcell⟩ := hc hp
  refine ⟨b, off, ha, hs, fun i hi => ?_⟩
  obtain ⟨da, dc, g1, g2, g3⟩ := hcell i hi
  have hb := k.block b (World.block_lt_of_cell? _ _ g1) hs
  exact ⟨da, dc, (World.cell?_of_block (a := ⟨b, off + i * 2, none⟩) hb).trans g1, (World.cell?_of_block (a := ⟨b, off + i * 2 + 1, none⟩) hb).trans g2, g3.frm k⟩

theorem POff.of_own {S : Nat → Prop} {lo top : Nat} {w : World} {v : Value} {ps : List (Int × List Int)} (h : POwn lo top w v ps) (hS : ∀ k, lo ≤ k → k < top → ¬ S k) : POff S w v ps := by
  obtain ⟨a, cap, hv, hc⟩ := h
  refine ⟨a, cap, hv, fun hp => ?_⟩
  obtain ⟨b, off, ha, h1, h2, h3, g, hg, hj⟩ := hc hp
  refine ⟨b, off, ha, hS b h1 h2, fun i hi => ?_⟩
  obtain ⟨q1, q2, _, _, da, dc, e1, e2, e3, e4⟩ := hg i hi
  refine ⟨da, dc, e1, e2, e4.bts, fun hpp => ?_⟩
  obtain ⟨a', c', hv', hx⟩ := e4.shape
  obtain ⟨b', off', ha', k1, k2, _⟩ := hx hpp
  simp only [Value.slice.injEq] at hv'
  rw [hv'.1, ha']
  exact ⟨_, _, _, rfl, hS _ (by show lo ≤ b'; omega) (by show b' < top; omega)⟩

/-- the writes ps put onto the disk zs, the oldest first -/
def settle (zs : List Int) (ps : List (Int × List Int)) : List Int := ps.foldl (fun z p => patch z p.1.toNat p.2) zs

theorem settle_take (zs : List Int) (ps : List (Int × List Int)) (k : Nat) (h : k < ps.length) : settle zs (ps.take (k + 1)) = patch (settle zs (ps.take k)) (ps.getD k (0, [])).1.toNat (ps.getD k (0, [])).2 := by
  unfold settle
  rw [List.take_succ_eq_append_getElem h, List.foldl_append]
  simp [h]

/-- writes that fit the disk -/
def Fits (n : Nat) (ps : List (Int × List Int)) : Prop := ∀ i, i < ps.length → 0 ≤ (ps.getD i (0, [])).1 ∧ ((ps.getD i (0, [])).1.toNat + 1) * 128 ≤ n ∧ (ps.getD i (0, [])).2.length = 128

theorem settle_length (zs : List Int) (ps : List (Int × List Int)) (hf : Fits zs.length ps) (k : Nat) (hk : k ≤ ps.length) : (settle zs (ps.take k)).length = zs.length := by
  induction k with
  | zero => simp [settle]
  | succ k ih =>
    have := ih (by omega)
    obtain ⟨_, h2, h3⟩ := hf k (by omega)
    rw [settle_take zs ps k (by omega), patch_length _ _ _ h3 (by omega), this]

theorem flush_after {W w1 : World} {p h eb eo g : Nat} {u x y : Value} {cs : List Value} (hS : W.cell? ⟨p, 1, none⟩ = some u ∧ W.cell? ⟨h, 0, none⟩ = some x ∧ W.cell? ⟨h, 1, none⟩ = some y ∧ W.rangeAt eb eo cs) (hF : Frm (fun k => k = g) W.drew w1) (h1 : p ≠ g) (h2 : h ≠ g) (h3 : ¬ (eb = g ∨ eb = p)) :
    w1.cell? ⟨p, 1, none⟩ = some u ∧ w1.cell? ⟨h, 0, none⟩ = some x ∧ w1.cell? ⟨h, 1, none⟩ = some y ∧ w1.rangeAt eb eo cs := by
  obtain ⟨e1, e2, e3, e4⟩ := hS
  have b1 := World.block_lt_of_cell? _ _ e1
  have b2 := World.block_lt_of_cell? _ _ e2
  refine ⟨(World.cell?_of_block (w := W.drew) (a := ⟨p, 1, none⟩) (hF.block p b1 h1)).trans e1, (World.cell?_of_block (w := W.drew) (a := ⟨h, 0, none⟩) (hF.block h b2 h2)).trans e2, (World.cell?_of_block (w := W.drew) (a := ⟨h, 1, none⟩) (hF.block h b2 h2)).trans e3, fun j v hv => ?_⟩
  have e5 := e4 j v hv
  exact (World.cell?_of_block (w := W.drew) (a := ⟨eb, eo + j, none⟩) (hF.block eb (World.block_lt_of_cell? _ _ e5) (fun e => h3 (Or.inl e)))).trans e5

theorem flush_end {w wr : World} {p g : Nat} {x u c : Value} {zs : List Int} {t : TypeId} (hX : Box3 wr p x u c t) (hr : RowAt wr g u zs) (hF : Frm (fun k => k = g ∨ k = p) w wr) (hpg : p ≠ g) :
    Box3 (wr.setCell ⟨p, 2, none⟩ (.slice none 0 0)) p x u (.slice none 0 0) t ∧ RowAt (wr.setCell ⟨p, 2, none⟩ (.slice none 0 0)) g u zs ∧ Frm (fun k => k = g ∨ k = p) w (wr.setCell ⟨p, 2, none⟩ (.slice none 0 0)) := by
  refine ⟨?_, hr.block (Below.heap_setCell _ _ _ _ (fun e => hpg e.symm)), hF.setCell (p := ⟨p, 2, none⟩) (Or.inr rfl) _⟩
  have := heap_setCell_same wr p 2 _ t (.slice none 0 0) hX
  simpa [Box3] using this

set_option maxHeartbeats 4000000 in
theorem flush_any (p g : Nat) (B : Int) (u : Value) (ca : Option Addr) (cc : Nat) (zs : List Int) (ps : List (Int × List Int)) (w : World) (hX : Box3 w p (.int .i64 B) u (.slice ca ps.length cc) 25) (hu : RowAt w g u zs) (hc : POff (fun k => k = g ∨ k = p) w (.slice ca ps.length cc) ps) (hpg : p ≠ g) (hn : zs.length ≤ 1048576) (hm : ps.length ≤ 1048576) (hf : Fits zs.length ps) :
    Calls Try.prog 47 #[.pointer (some ⟨p, 0, none⟩)] w fun e w' => e = .returned (.tuple #[]) ∧ Box3 w' p (.int .i64 B) u (.slice none 0 0) 25 ∧ RowAt w' g u (settle zs ps) ∧ Frm (fun k => k = g ∨ k = p) w w' := by
  obtain ⟨c0, c1, c2⟩ := hX.cells
  have harr := fun a c w => arrayAt_any a 128 c w (Nat.le_refl _)
  have hsz := size128
  go_enter Try.func47, Try.ntmps47
  go_wp2
  obtain ⟨_, _, he, hpc⟩ := id hc
  simp only [Value.slice.injEq, true_and] at he
  obtain ⟨rfl, rfl⟩ := he
  clear c0 c1 c2
  go_loopw [3, 9] (fun _ i wr => ∃ k : Nat, k ≤ ps.length ∧ i = .int .i64 k ∧ RowAt wr g u (settle zs (ps.take k)) ∧ Frm (fun k => k = g) w wr) (fun _ i _ => ps.length - (intOf i).toNat)
  case atStart => exact ⟨0, Nat.zero_le _, rfl, hu, Frm.refl _ _⟩
  case round =>
    obtain ⟨k, hk, rfl, hr, hF⟩ := hrel
    have hF2 : Frm (fun k => k = g ∨ k = p) w wr := hF.wider (fun k h => Or.inl h)
    have hX1 : Box3 wr p (.int .i64 B) u (.slice ca ps.length cc) 25 := (hF.block p hX.lt hpg).trans hX
    have hc1 := hc.frm hF2
    have hsl := settle_length zs ps hf k hk
    by_cases hlt : k < ps.length
    · obtain ⟨_, _, he, hpc1⟩ := hc1
      simp only [Value.slice.injEq, true_and] at he
      obtain ⟨rfl, rfl⟩ := he
      obtain ⟨b, off, rfl, hsb, hcell⟩ := hpc1 (by omega)
      obtain ⟨ea, ec, g1, g2, g3⟩ := hcell k hlt
      obtain ⟨hf1, hf2, hf3⟩ := hf k hlt
      have HT : Hid (settle zs (ps.take (k + 1)) = patch (settle zs (ps.take k)) (ps.getD k (0, [])).1.toNat (ps.getD k (0, [])).2) := settle_take zs ps k hlt
      clear hcell hpc hpc1
      generalize ps.getD k (0, []) = e at g1 g2 g3 hf1 hf2 hf3 HT
      obtain ⟨r, ds⟩ := e
      simp only at g1 g2 g3 hf1 hf2 hf3 HT
      obtain ⟨n, rfl⟩ := Int.eq_ofNat_of_zero_le hf1
      rw [Int.toNat_natCast] at hf2 HT
      rw [hf3] at g2 g3
      obtain ⟨_, _, _, he, hse⟩ := g3.off (by omega)
      simp only [Value.slice.injEq] at he
      obtain ⟨rfl, rfl, rfl⟩ := he
      have hsh := g3.bts.shape
      obtain ⟨_, _, he, hx⟩ := hsh
      simp only [Value.slice.injEq] at he
      obtain ⟨he1, -, rfl⟩ := he
      obtain ⟨eb, eo, he2, -⟩ := hx (by omega)
      rw [he2] at he1
      simp only [Option.some.injEq] at he1
      subst he1
      clear he2 hx
      have hR0 := Rng8.of_bts g3.bts rfl hf3
      have hsm := g3.bts.small
      have hR1 := hR0.range
      obtain ⟨x0, x1, x2⟩ := hX1.cells
      have hpl := hX1.lt
      have hebl := World.block_lt_of_cell? _ _ (hR0.2 0 (by omega))
      have hr1 := hr.below (belowA wr (.cells #[.int .i64 n, .slice (some ⟨eb, eo, none⟩) 128 ec] 38))
      have hgl := hr.lt
      have hS0 : (wr.alloc (.cells #[.int .i64 n, .slice (some ⟨eb, eo, none⟩) 128 ec] 38)).cell? ⟨p, 1, none⟩ = some u ∧ (wr.alloc (.cells #[.int .i64 n, .slice (some ⟨eb, eo, none⟩) 128 ec] 38)).cell? ⟨wr.heap.size, 0, none⟩ = some (.int .i64 n) ∧ (wr.alloc (.cells #[.int .i64 n, .slice (some ⟨eb, eo, none⟩) 128 ec] 38)).cell? ⟨wr.heap.size, 1, none⟩ = some (.slice (some ⟨eb, eo, none⟩) 128 ec) ∧ (wr.alloc (.cells #[.int .i64 n, .slice (some ⟨eb, eo, none⟩) 128 ec] 38)).rangeAt eb eo (ds.map (Value.int .u8)) :=
        ⟨(World.cell?_alloc_past _ _ _ hpl).trans x1, World.cell?_alloc_at _ _ _ _ rfl, World.cell?_alloc_at _ _ _ _ rfl, World.rangeAt_alloc hR1 _⟩
      have hcl : (ds.map (Value.int .u8)).length = 128 := by simpa using hf3
      have h1c : ∀ v ∈ ds.map (Value.int .u8), v.oneCell' = true := fun v hv => by
        simp only [List.mem_map] at hv
        obtain ⟨z, _, rfl⟩ := hv
        rfl
      have hu82 := Try.underlying76
      have hi82 : (Try.prog.info? 76).map (·.size) = some (ds.map (Value.int .u8)).length := by rw [hcl]; exact size128
      have hqn : (n + 1) * 128 ≤ (settle zs (ps.take k)).length := by rw [hsl]; exact hf2
      have hqm : (settle zs (ps.take k)).length ≤ 1048576 := by rw [hsl]; exact hn
      clear hsl
      go_wp2
      go_region_held3 (fun w' => w'.cell? ⟨p, 1, none⟩ = some u ∧ w'.cell? ⟨wr.heap.size, 0, none⟩ = some (.int .i64 n) ∧ w'.cell? ⟨wr.heap.size, 1, none⟩ = some (.slice (some ⟨eb, eo, none⟩) 128 ec) ∧ w'.rangeAt eb eo (ds.map (Value.int .u8))) (first | go_keep_ranges | assumption)
        (first | (go_at_call 61; refine (putBlock_any g n u (settle zs (ps.take k)) ds _ ?_ hf3 hsm hqn hqm).mono ?_; exact hr1.below (Below.refl _ _).drew; rintro e w1 ⟨rfl, hr2, hF3⟩; have hS1 := flush_after hS0 hF3 hpg (by omega) hse))
      have hF4 : Frm (fun k => k = g) w w1 := hF.trans ((Frm.of_below (belowA wr (.cells #[.int .i64 n, .slice (some ⟨eb, eo, none⟩) 128 ec] 38)).drew).trans hF3)
      have hr3 : RowAt w1 g u (settle zs (ps.take (k + 1))) := by rw [HT.out]; exact hr2
      clear hS0 hS1 hr1 hr2 hF3 x0 x1 x2 g1 g2 g3 hu82 hi82 hR0 hR1 hcl h1c
      go_wp2
      go_roundw
      case rel => exact ⟨k + 1, by omega, by go_num, hr3, hF4⟩
      case measure => simp [intOf]; omega
    · have HK : Hid (ps.take k = ps) := List.take_of_length_le (by omega)
      rw [HK.out] at hr
      obtain ⟨x0, x1, x2⟩ := hX1.cells
      have hfr := hX1.free
      have hend := flush_end hX1 hr hF2 hpg
      clear hpc hc1 hsl
      go_wp2
      go_end0
      exact ⟨rfl, hend.1, hend.2.1, hend.2.2⟩
end Go.Proofs.Ytbadedhliplkeaa

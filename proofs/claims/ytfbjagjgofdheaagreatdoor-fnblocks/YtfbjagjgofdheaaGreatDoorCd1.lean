import Derived.Test.YtfbjagjgofdheaaGreatDoorBytes
import Derived.Test.YtfbjagjgofdheaaGreatDoorCrc
import Derived.Deep.MidRow
namespace Go.Proofs.YtfbjagjgofdheaaGreatDoor
open Go.RowKit

/-- byte i of v, the least first -/
def leB (v : Int) (i : Nat) : Int := v / 2 ^ (8 * i) % 256
theorem leB_small (v : Int) (i : Nat) : 0 ≤ leB v i ∧ leB v i < 256 := by unfold leB; omega
/-- the first n bytes of v -/
def leN (v : Int) (n : Nat) : List Int := (List.range n).map fun i => leB v i
theorem leN_length (v : Int) (n : Nat) : (leN v n).length = n := by simp [leN]
theorem leN_snoc (v : Int) (n : Nat) : leN v (n + 1) = leN v n ++ [leB v n] := by simp [leN, List.range_succ]
theorem leN_small (v : Int) (n i : Nat) : 0 ≤ (leN v n).getD i 0 ∧ (leN v n).getD i 0 < 256 := by
  by_cases h : i < n
  · have := leB_small v i
    simpa [leN, h] using this
  · simp [leN, h]

set_option maxHeartbeats 1000000 in
theorem l2Num_any (u : Value) (zs : List Int) (v : Int) (n : Nat) (base : Nat) (w : World) (hu : Row8 base w u zs) (hb : base ≤ w.heap.size) (hz : zs.length ≤ 1048576) (hn : n ≤ 8) :
    Calls Tryz.prog 40 #[u, .int .i64 v, .int .i64 n] w fun e w' => ∃ u', e = .returned u' ∧ Row8 base w' u' (zs ++ leN v n) ∧ Below base w w' := by
  go_enter Tryz.func40, Tryz.ntmps40
  go_wp2
  go_loopw [0, 7] (fun u i wr => ∃ k : Nat, k ≤ n ∧ i = .int .i64 k ∧ Row8 base wr u (zs ++ leN v k) ∧ Below base w wr) (fun _ i _ => n - (intOf i).toNat)
  case atStart => exact ⟨0, Nat.zero_le _, rfl, by simpa [leN] using hu, Below.refl _ _⟩
  case round =>
    obtain ⟨k, hk, rfl, hown, hbl⟩ := hrel
    obtain ⟨ua, uc, hua⟩ := hown.shape
    subst hua
    have hsz := hbl.size
    have hfl : (zs ++ leN v k).length < 140737488355328 := by simp [leN_length]; omega
    by_cases hlt : k < n
    · have hki : (k : Int) < (n : Int) := by omega
      have HSN : Hid (zs ++ leN v (k + 1) = (zs ++ leN v k) ++ [leB v k]) := by rw [Hid, leN_snoc, List.append_assoc]
      have HB : Hid (leB v k = v / 2 ^ (8 * k) % 256) := rfl
      generalize zs ++ leN v k = ys at *
      go_wp2_with (first | (at_builtin; refine wpList_append8 rfl _ _ rfl _ hown rfl rfl hfl (by omega) ?_; intro v' w1 hown1 hbel1 hsz1 hgr1) | go_in)
      rw [← HB.out, ← HSN.out] at hown1
      go_roundw
      case rel => exact ⟨k + 1, by omega, by go_num, hown1, hbl.trans hbel1⟩
      case measure => simp [intOf]; omega
    · obtain rfl : k = n := by omega
      go_wp2
      go_ret
      exact ⟨_, rfl, hown, hbl⟩
end Go.Proofs.YtfbjagjgofdheaaGreatDoor

namespace Go.Proofs.YtfbjagjgofdheaaGreatDoor
open Go.RowKit

/-- filled up to 124 bytes -/
def fillL (zs : List Int) : List Int := zs ++ List.replicate (124 - zs.length) 0
/-- filled up, and the sum -/
def sealL (zs : List Int) : List Int := fillL zs ++ leN (crcOf (fillL zs)) 4
theorem fillL_length (zs : List Int) (h : zs.length ≤ 124) : (fillL zs).length = 124 := by simp [fillL]; omega
theorem sealL_length (zs : List Int) (h : zs.length ≤ 124) : (sealL zs).length = 128 := by simp [sealL, fillL_length zs h, leN_length]
/-- all bytes -/
def Byt (zs : List Int) : Prop := ∀ i, 0 ≤ zs.getD i 0 ∧ zs.getD i 0 < 256
theorem Byt.append {xs ys : List Int} (h : Byt xs) (k : Byt ys) : Byt (xs ++ ys) := fun i => by
  by_cases hi : i < xs.length
  · have := h i
    simpa [List.getElem?_append_left hi] using this
  · have := k (i - xs.length)
    simpa [List.getElem?_append_right (Nat.le_of_not_lt hi)] using this
theorem Byt.zeros (n : Nat) : Byt (List.replicate n 0) := fun i => by by_cases h : i < n <;> simp [h]
theorem Byt.nil : Byt [] := fun i => by simp
theorem Byt.le (v : Int) (n : Nat) : Byt (leN v n) := leN_small v n
theorem Byt.fill {zs : List Int} (h : Byt zs) : Byt (fillL zs) := h.append (Byt.zeros _)
theorem Byt.seal {zs : List Int} (h : Byt zs) : Byt (sealL zs) := h.fill.append (Byt.le _ _)

set_option maxHeartbeats 1000000 in
set_option maxRecDepth 100000 in
theorem l2Seal_any (u : Value) (zs : List Int) (base : Nat) (w : World) (hu : Row8 base w u zs) (hb : base ≤ w.heap.size) (hz : zs.length ≤ 124) (hy : Byt zs) :
    Calls Tryz.prog 41 #[u] w fun e w' => ∃ u', e = .returned u' ∧ Row8 base w' u' (sealL zs) ∧ Below base w w' := by
  have HF : Hid (sealL zs = fillL zs ++ leN (crcOf (fillL zs)) 4) := rfl
  have HL : Hid ((fillL zs).length = 124) := fillL_length zs hz
  have HFB : Hid (Byt (fillL zs)) := hy.fill
  have HE : Hid (zs ++ List.replicate (124 - zs.length) 0 = fillL zs) := rfl
  go_enter Tryz.func41, Tryz.ntmps41
  go_wp2
  go_loopw [0] (fun u wr => ∃ k : Nat, k ≤ 124 - zs.length ∧ Row8 base wr u (zs ++ List.replicate k 0) ∧ Below base w wr) (fun u _ => match u with | .slice _ n _ => 124 - n | _ => 0)
  case atStart => exact ⟨0, Nat.zero_le _, by simpa using hu, Below.refl _ _⟩
  case round =>
    obtain ⟨k, hk, hown, hbl⟩ := hrel
    obtain ⟨ua, uc, hua⟩ := hown.shape
    subst hua
    have hsz := hbl.size
    have hle : (zs ++ List.replicate k (0 : Int)).length = zs.length + k := by simp
    have hfl : (zs ++ List.replicate k (0 : Int)).length < 140737488355328 := by rw [hle]; omega
    by_cases hlt : k < 124 - zs.length
    · have HSN : Hid (zs ++ List.replicate (k + 1) 0 = (zs ++ List.replicate k 0) ++ [(0 : Int)]) := by rw [Hid, List.append_assoc, ← List.replicate_succ']
      have HL2 : Hid ((zs ++ List.replicate k (0 : Int)).length = zs.length + k) := hle
      have hli : (((zs ++ List.replicate k (0 : Int)).length : Nat) : Int) < 124 := by rw [hle]; omega
      clear hle
      generalize zs ++ List.replicate k 0 = ys at *
      go_wp2_with (first | (at_builtin; refine wpList_append8 rfl _ _ rfl _ hown rfl rfl hfl (by omega) ?_; intro v' w1 hown1 hbel1 hsz1 hgr1) | go_in)
      rw [← HSN.out] at hown1
      obtain ⟨va, vc, hva⟩ := hown1.shape
      subst hva
      go_roundw
      case rel => exact ⟨k + 1, by omega, hown1, hbl.trans hbel1⟩
      case measure => have := HL2.out; simp; omega
    · obtain rfl : k = 124 - zs.length := by omega
      rw [HE.out] at hown
      have hli : ¬ (((fillL zs).length : Nat) : Int) < 124 := by rw [HL.out]; omega
      have hbt := (hown.own HFB.out).bts
      have hcr := crcOf_in (fillL zs)
      have hf2 : (fillL zs).length ≤ 1048576 := by rw [HL.out]; omega
      rw [HL.out] at hown hbt
      clear hle hfl
      generalize hys : fillL zs = ys at *
      clear hys HE hli hf2
      have hli : ¬ (124 : Int) < 124 := by omega
      have hl124 : ys.length = 124 := HL.out
      have HL124 : Hid (ys.length = 124) := hl124
      clear hl124
      rw [← HL124.out] at hown hbt
      obtain ⟨sl, hsl⟩ : ∃ sl, sl = Value.slice ua ys.length uc := ⟨_, rfl⟩
      rw [← hsl] at hown hbt
      rw [HL124.out] at hsl
      go_wp2_with fail
      rw [← hsl]
      refine (specCrc_any _ ys _ hbt (by rw [HL124.out]; omega)).mono ?_
      rintro e w1 ⟨rfl, rfl⟩
      go_wp2_with fail
      rw [← hsl]
      refine (l2Num_any _ ys (crcOf ys) 4 base _ hown (by omega) (by rw [HL124.out]; omega) (by omega)).mono ?_
      rintro e w2 ⟨u', rfl, hR, hB⟩
      rw [← HF.out] at hR
      go_wp2
      go_ret
      exact ⟨_, rfl, hR, hbl.trans hB⟩
end Go.Proofs.YtfbjagjgofdheaaGreatDoor

namespace Go.Proofs.YtfbjagjgofdheaaGreatDoor
open Go.RowKit

/-- v laid into zs from off on, k bytes -/
def putL (zs : List Int) (off : Nat) (v : Int) : Nat → List Int
  | 0 => zs
  | k + 1 => (putL zs off v k).set (off + k) (leB v k)
theorem putL_length (zs : List Int) (off : Nat) (v : Int) (k : Nat) : (putL zs off v k).length = zs.length := by
  induction k with
  | zero => rfl
  | succ k ih => simp [putL, ih]

/-- block b is an array of 128 bytes -/
def Arr (w : World) (b : Nat) (zs : List Int) : Prop := zs.length = 128 ∧ Own8 b (b + 1) w (.slice (some ⟨b, 0, none⟩) 128 128) zs
theorem Arr.at {w : World} {b : Nat} {zs : List Int} (h : Arr w b zs) {j : Nat} (hj : j < 128) : w.cell? ⟨b, j, none⟩ = some (.int .u8 (zs.getD j 0)) ∧ w.frozen? ⟨b, j, none⟩ = false := by
  obtain ⟨hl, ho⟩ := h
  obtain ⟨_, _, he, hs⟩ := ho.shape
  simp only [Value.slice.injEq] at he
  obtain ⟨rfl, _, rfl⟩ := he
  obtain ⟨_, _, he, _, _, _, hc⟩ := hs (by omega)
  simp only [Option.some.injEq, Addr.mk.injEq, and_true] at he
  obtain ⟨rfl, rfl⟩ := he
  have := hc j (by omega)
  rwa [Nat.zero_add] at this
theorem Arr.stored {w : World} {b : Nat} {zs : List Int} (h : Arr w b zs) {j : Nat} (hj : j < 128) (x : Int) (hx : 0 ≤ x ∧ x < 256) : Arr (w.setCell ⟨b, j, none⟩ (.int .u8 x)) b (zs.set j x) ∧ Upd b (b + 1) w (w.setCell ⟨b, j, none⟩ (.int .u8 x)) := by
  have := h.2.stored j hj x hx
  rw [Nat.zero_add] at this
  exact ⟨⟨by rw [List.length_set]; exact h.1, this.1⟩, this.2⟩

set_option maxHeartbeats 1000000 in
theorem putNumber_any (b off n cap : Nat) (v : Int) (zs : List Int) (w : World) (h : Arr w b zs) (ho : off + n ≤ 128) (hn : n ≤ 8) :
    Calls Tryz.prog 60 #[.slice (some ⟨b, off, none⟩) n cap, .int .i64 v] w fun e w' => e = .returned (.tuple #[]) ∧ Arr w' b (putL zs off v n) ∧ Upd b (b + 1) w w' := by
  go_enter Tryz.func60, Tryz.ntmps60
  go_wp2
  go_loopw [7] (fun i wr => ∃ k : Nat, k ≤ n ∧ i = .int .i64 k ∧ Arr wr b (putL zs off v k) ∧ Upd b (b + 1) w wr) (fun i _ => n - (intOf i).toNat)
  case atStart => exact ⟨0, Nat.zero_le _, rfl, h, Upd.refl _ _ _⟩
  case round =>
    obtain ⟨k, hk, rfl, ha, hu⟩ := hrel
    by_cases hlt : k < n
    · have hki : (k : Int) < (n : Int) := by omega
      obtain ⟨c1, c2⟩ := ha.at (j := off + k) (by omega)
      have hst := ha.stored (j := off + k) (by omega) (leB v k) (leB_small v k)
      have HS1 : Hid (Arr (wr.setCell ⟨b, off + k, none⟩ (.int .u8 (v / 2 ^ (8 * k) % 256))) b (putL zs off v (k + 1))) := hst.1
      have HS2 : Hid (Upd b (b + 1) wr (wr.setCell ⟨b, off + k, none⟩ (.int .u8 (v / 2 ^ (8 * k) % 256)))) := hst.2
      clear hst
      generalize (putL zs off v k).getD (off + k) 0 = cv at *
      go_wp2
      go_roundw
      case rel => exact ⟨k + 1, by omega, by go_num, HS1.out, hu.trans HS2.out⟩
      case measure => simp [intOf]; omega
    · obtain rfl : k = n := by omega
      go_wp2
      exact bodyPost_end (v := .tuple #[]) (by simp [results, Tryz.results60, go_sem]) rfl ⟨rfl, ha, hu⟩
end Go.Proofs.YtfbjagjgofdheaaGreatDoor

namespace Go.Proofs.YtfbjagjgofdheaaGreatDoor
open Go.RowKit

/-- the cells of a zero block -/
def zero128 : Array Value := Array.replicate 128 (.int .u8 0)

theorem alloc128 (w : World) : (Instr.alloc 100 true (.tuple #[])).run Tryz.prog w = .ok (.pointer (some ⟨w.heap.size, 0, none⟩)) (w.alloc (.cells zero128 100)) := by kernel_rfl

theorem size128 : (Tryz.prog.info? 100).map (·.size) = some 128 := by kernel_rfl

/-- 128 bytes from offset o of block b on -/
def Rng8 (w : World) (b o : Nat) (ds : List Int) : Prop := ds.length = 128 ∧ ∀ i, i < 128 → w.cell? ⟨b, o + i, none⟩ = some (.int .u8 (ds.getD i 0))

theorem Rng8.range {w : World} {b o : Nat} {ds : List Int} (h : Rng8 w b o ds) : w.rangeAt b o (ds.map (Value.int .u8)) := fun j v hv => by
  have hj : j < ds.length := by
    by_cases hh : j < ds.length
    · exact hh
    · simp [show ds.length ≤ j by omega] at hv
  rw [h.2 j (by rw [← h.1]; exact hj)]
  simp only [List.getElem?_map, List.getElem?_eq_getElem hj, Option.map_some, Option.some.injEq] at hv
  rw [← hv]; simp [hj]

theorem Rng8.of_bts {w : World} {a : Option Addr} {b o cap n : Nat} {ds : List Int} (h : Bts w (.slice a n cap) ds) (ha : a = some ⟨b, o, none⟩) (hl : ds.length = 128) : Rng8 w b o ds := by
  obtain ⟨a', cap', hv, hc⟩ := h.shape
  simp only [Value.slice.injEq] at hv
  obtain ⟨rfl, rfl, rfl⟩ := hv
  obtain ⟨b', off', ha', hcell⟩ := hc (by omega)
  rw [ha] at ha'
  simp only [Option.some.injEq, Addr.mk.injEq, and_true] at ha'
  obtain ⟨rfl, rfl⟩ := ha'
  exact ⟨hl, fun i hi => hcell i (by omega)⟩

theorem wpList_alloc128 {ops : Array Oper} {rest : List Oper} {o : Oper} {a : Act} {w : World} {Q : Exit → Act → World → Prop} (hg : o.guard = none ∧ o.op = .alloc 100)
    (h : wpList Tryz.prog ops Q rest (a.put o.dst (.pointer (some ⟨w.heap.size, 0, none⟩))) (w.alloc (.cells zero128 100))) : wpList Tryz.prog ops Q (o :: rest) a w :=
  wpList_plain hg.1 fun K hK => by
    unfold Oper.wp execOp
    simp only [hg.2, alloc128, Sem.run_bind, Sem.run_pure, Result.andThen_ok]
    exact hK _ _ h

theorem wpList_load128 {ops : Array Oper} {rest : List Oper} {op : Oper} {a : Act} {w : World} {Q : Exit → Act → World → Prop} {b o : Nat} {ds : List Int} (hc : Rng8 w b o ds) (hg : op.guard = none ∧ ∃ x, op.op = .load 100 x ∧ a.eval x = .pointer (some ⟨b, o, none⟩))
    (h : wpList Tryz.prog ops Q rest (a.put op.dst (.agg (u8s ds))) w) : wpList Tryz.prog ops Q (op :: rest) a w := by
  obtain ⟨hgd, x, ho, hx⟩ := hg
  exact wpList_load_mid hgd 100 x ho b o hx (ds.map (Value.int .u8)) _ hc.range Tryz.underlying100 rfl (by rw [size128]; simp [hc.1]) h

theorem u8s_one (ds : List Int) : (u8s ds).all (·.oneCell') = true := all_oneCell_toArray (fun v hv => by
  simp only [List.mem_map] at hv
  obtain ⟨x, _, rfl⟩ := hv
  rfl)

theorem wpList_store128 {ops : Array Oper} {rest : List Oper} {op : Oper} {a : Act} {w : World} {Q : Exit → Act → World → Prop} {b o : Nat} (ht : w.there b o 128) {ds : List Int} (hl : ds.length = 128) (hg : op.guard = none ∧ ∃ x y, op.op = .store 100 x y ∧ a.eval x = .pointer (some ⟨b, o, none⟩) ∧ a.eval y = .agg (u8s ds))
    (h : wpList Tryz.prog ops Q rest (a.put op.dst undef) (w.setCells b o (ds.map (Value.int .u8)))) : wpList Tryz.prog ops Q (op :: rest) a w := by
  obtain ⟨hgd, x, y, ho, hx, hy⟩ := hg
  have hsz : (u8s ds).size = 128 := by simp [u8s, hl]
  refine wpList_store_mid hgd 100 x y ho b o (u8s ds) hx hy (by rw [hsz]; exact ht) (by rw [hsz]; exact size128) (u8s_one ds) ?_
  simpa [u8s] using h

theorem there_new (w : World) (g : Nat) (hg : g = w.heap.size) : (w.alloc (.cells zero128 100)).there g 0 128 := fun j hj => by
  subst hg
  rw [World.cell?_alloc_at _ _ _ _ rfl, World.frozen?_alloc_at _ _ _ _ rfl]
  simp [zero128, hj]

theorem setCells_new (w : World) (c : Array Value) (t : TypeId) (vs : List Value) (o : Nat) (h : o + vs.length ≤ c.size) : (w.alloc (.cells c t)).setCells w.heap.size o vs = w.alloc (.cells (c.toList.take o ++ vs ++ c.toList.drop (o + vs.length)).toArray t) := by
  induction vs generalizing o c with
  | nil => simp [World.setCells]
  | cons v r ih =>
    simp only [List.length_cons] at h
    show ((w.alloc (.cells c t)).setCell ⟨w.heap.size, o, none⟩ v).setCells w.heap.size (o + 1) r = _
    rw [World.setCell_alloc_at _ _ _ _ _ rfl, ih _ _ (by simp; omega)]
    congr 2
    apply congrArg List.toArray
    simp only [Array.toList_setIfInBounds]
    apply List.ext_getElem?
    intro j
    simp only [List.append_assoc, List.getElem?_append, List.length_take, List.length_set, Array.length_toList, List.length_cons, List.getElem?_take, List.getElem?_drop, List.getElem?_set, List.getElem?_cons]
    rw [show min (o + 1) c.size = o + 1 by omega, show min o c.size = o by omega]
    by_cases h1 : j < o
    · rw [if_pos (show j < o + 1 by omega), if_pos (show j < o + 1 by omega), if_neg (show ¬ o = j by omega), if_pos h1, if_pos h1]
    · by_cases h2 : j = o
      · subst h2
        rw [if_pos (show j < j + 1 by omega), if_pos (show j < j + 1 by omega), if_pos rfl, if_pos (show j < c.size by omega), if_neg (show ¬ j < j by omega), if_pos (show j - j < r.length + 1 by omega), if_pos (show j - j = 0 by omega)]
      · rw [if_neg (show ¬ j < o + 1 by omega), if_neg h1]
        by_cases h3 : j - (o + 1) < r.length
        · rw [if_pos h3, if_pos (show j - o < r.length + 1 by omega), if_neg (show ¬ j - o = 0 by omega), show j - o - 1 = j - (o + 1) by omega]
        · rw [if_neg h3, if_neg (show ¬ j - o < r.length + 1 by omega), if_neg (show ¬ o = o + 1 + r.length + (j - (o + 1) - r.length) by omega), show o + 1 + r.length + (j - (o + 1) - r.length) = o + (r.length + 1) + (j - o - (r.length + 1)) by omega]

theorem stored_new (w : World) (ds : List Int) (hl : ds.length = 128) (g : Nat) (hg : g = w.heap.size) : (w.alloc (.cells zero128 100)).setCells g 0 (ds.map (Value.int .u8)) = w.alloc (.cells (u8s ds) 100) := by
  subst hg
  rw [setCells_new _ _ _ _ _ (by simp [zero128, hl])]
  congr 2
  simp [zero128, hl, u8s]

theorem results_cell1 {fn : Func} {p : Tmp} {ty : TypeId} (h : fn.results = #[.cell p ty]) (tmps : Array Value) (P : Program) (w : World) :
    (results fn tmps).run P w = ((asAddr (tmps.getD p undef)).run P w).andThen fun a w1 => (loadVar ty a).run P w1 := by
  simp only [results, h]
  simp [Sem.run_bind, Result.andThen]

theorem arrayAt_any (a : Option Addr) (n c : Nat) (w : World) (h : 128 ≤ n) : (Instr.arrayAt 100 (.slice a n c)).run Tryz.prog w = .ok (.pointer a) w := by
  simp only [Instr.arrayAt, Sem.run_bind, run_underlying Tryz.underlying100, Result.andThen_ok]
  rw [if_neg (by omega)]
  rfl

theorem rng_new (w : World) (ds : List Int) (hl : ds.length = 128) (t : TypeId) (g : Nat) (hg : g = w.heap.size) : Rng8 (w.alloc (.cells (u8s ds) t)) g 0 ds := ⟨hl, fun i hi => by
  subst hg
  rw [Nat.zero_add, World.cell?_alloc_at _ _ _ _ rfl]
  simp [u8s, hl, hi]⟩

theorem load_rng {w : World} {b o : Nat} {ds : List Int} (h : Rng8 w b o ds) : (loadVar 100 ⟨b, o, none⟩).run Tryz.prog w = .ok (.agg (u8s ds)) w :=
  run_loadVar_mid w b o 100 (ds.map (Value.int .u8)) _ h.range Tryz.underlying100 rfl (by rw [size128]; simp [h.1])

theorem result_rng {fn : Func} {p : Tmp} (h : fn.results = #[.cell p 100]) {tmps : Array Value} {w : World} {b o : Nat} {ds : List Int} (hp : tmps.getD p undef = .pointer (some ⟨b, o, none⟩)) (hr : Rng8 w b o ds) :
    (results fn tmps).run Tryz.prog w = .ok (.agg (u8s ds)) w := by
  rw [results_cell1 h, hp]
  simp only [asAddr, Sem.run_pure, Result.andThen_ok]
  exact load_rng hr

theorem Below.setCells {B : Nat} {a w : World} (h : Below B a w) {b : Nat} (hb : B ≤ b) (vs : List Value) (o : Nat) : Below B a (w.setCells b o vs) := by
  induction vs generalizing w o with
  | nil => exact h
  | cons v r ih => exact ih (h.setCell (p := ⟨b, o, none⟩) hb v) (o + 1)

theorem heap_setCells (w : World) (b : Nat) (vs : List Value) (o k : Nat) (hk : k ≠ b) : (w.setCells b o vs).heap[k]? = w.heap[k]? := by
  induction vs generalizing w o with
  | nil => rfl
  | cons v r ih => exact (ih (w.setCell ⟨b, o, none⟩ v) (o + 1)).trans (Below.heap_setCell w ⟨b, o, none⟩ v k hk)

theorem size_setCells (w : World) (b : Nat) (vs : List Value) (o : Nat) : (w.setCells b o vs).heap.size = w.heap.size := by
  induction vs generalizing w o with
  | nil => rfl
  | cons v r ih => exact (ih (w.setCell ⟨b, o, none⟩ v) (o + 1)).trans (World.size_setCell _ _ _)

theorem Rng8.stored {w : World} {b : Nat} {ds : List Int} (ht : w.there b 0 128) (hl : ds.length = 128) : Rng8 (w.setCells b 0 (ds.map (Value.int .u8))) b 0 ds := ⟨hl, fun i hi => by
  have h := World.rangeAt_setCells_same w b 0 (ds.map (Value.int .u8)) (by simpa [hl] using ht) i (.int .u8 (ds.getD i 0)) (by simp [hl, hi])
  exact h⟩

theorem Rng8.block {w w' : World} {b o : Nat} {ds : List Int} (h : Rng8 w b o ds) (hb : w'.heap[b]? = w.heap[b]?) : Rng8 w' b o ds :=
  ⟨h.1, fun i hi => (World.cell?_of_block (w := w) (w' := w') (a := ⟨b, o + i, none⟩) hb).trans (h.2 i hi)⟩

theorem there_block {w w' : World} {b o n : Nat} (h : w.there b o n) (hb : w'.heap[b]? = w.heap[b]?) : w'.there b o n := fun j hj => by
  rw [World.cell?_of_block (w := w) (w' := w') (a := ⟨b, o + j, none⟩) hb, World.frozen?_of_block (w := w) (w' := w') (a := ⟨b, o + j, none⟩) hb]
  exact h j hj

theorem Rng8.own {w : World} {b : Nat} {ds : List Int} (h : Rng8 w b 0 ds) (ht : w.there b 0 128) (hs : ∀ i, 0 ≤ ds.getD i 0 ∧ ds.getD i 0 < 256) (n cap : Nat) (hn : n = 128) : Own8 b (b + 1) w (.slice (some ⟨b, 0, none⟩) n cap) ds := by
  subst hn
  refine ⟨hs, _, cap, by rw [h.1], fun _ => ⟨b, 0, rfl, Nat.le_refl _, Nat.lt_succ_self _, World.block_lt_of_cell? _ _ (h.2 0 (by omega)), fun i hi => ?_⟩⟩
  rw [h.1] at hi
  exact ⟨h.2 i hi, (ht i hi).2⟩

/-- a new block and what is stored into it at once -/
theorem wpList_store_new {ops : Array Oper} {rest : List Oper} {op : Oper} {a : Act} {w : World} {Q : Exit → Act → World → Prop} {ds : List Int} (hl : ds.length = 128) (hg : op.guard = none ∧ ∃ x y g, op.op = .store 100 x y ∧ a.eval x = .pointer (some ⟨g, 0, none⟩) ∧ a.eval y = .agg (u8s ds) ∧ g = w.heap.size)
    (h : wpList Tryz.prog ops Q rest (a.put op.dst undef) (w.alloc (.cells (u8s ds) 100))) : wpList Tryz.prog ops Q (op :: rest) a (w.alloc (.cells zero128 100)) := by
  obtain ⟨h1, x, y, g, h2, h3, h4, h5⟩ := hg
  exact wpList_store128 (there_new w g h5) hl ⟨h1, x, y, h2, h3, h4⟩ (by rw [stored_new w ds hl g h5]; exact h)

end Go.Proofs.YtfbjagjgofdheaaGreatDoor

import Derived.Test.YtpjdhfbeofdplaaGreatDoorCd8
namespace Go.Proofs.YtpjdhfbeofdplaaGreatDoor
open Go.RowKit
set_option linter.unusedVariables false

/-- block g holds just the bytes ds -/
def Dat (w : World) (g : Nat) (t : TypeId) (ds : List Int) : Prop := w.heap[g]? = some (.cells (u8s ds) t (0, 0))
theorem Dat.lt {w : World} {g : Nat} {t : TypeId} {ds : List Int} (h : Dat w g t ds) : g < w.heap.size := (Array.getElem?_eq_some_iff.1 h).1
theorem Dat.below {w w' : World} {g : Nat} {t : TypeId} {ds : List Int} (h : Dat w g t ds) (k : Below w.heap.size w w') : Dat w' g t ds := (k.block g h.lt).trans h
theorem Dat.own {w : World} {g : Nat} {t : TypeId} {ds : List Int} (h : Dat w g t ds) (hb : Byt ds) (n cap : Nat) (hn : n = ds.length) : Own8 g (g + 1) w (.slice (some ⟨g, 0, none⟩) n cap) ds := by
  subst hn
  refine ⟨hb, _, cap, rfl, fun _ => ⟨g, 0, rfl, Nat.le_refl _, Nat.lt_succ_self _, h.lt, fun i hi => ?_⟩⟩
  unfold Dat at h
  constructor
  · rw [Nat.zero_add]; simp [World.cell?, h, u8s, hi]
  · exact frozen_of_row w g _ _ _ h

/-- what a block is sealed with -/
def slL (ds : List Int) : List Int := putL ds 124 (crcOf (ds.take 124)) 4
theorem slL_length {ds : List Int} (h : ds.length = 128) : (slL ds).length = 128 := by rw [slL, putL_length, h]
theorem slL_seal (pre : List Int) (h : pre.length ≤ 124) : slL (pre ++ List.replicate (128 - pre.length) 0) = sealL pre := by
  have hl : (fillL pre).length = 124 := fillL_length _ h
  have e : pre ++ List.replicate (128 - pre.length) (0 : Int) = fillL pre ++ List.replicate 4 0 := by
    rw [fillL, List.append_assoc, List.replicate_append_replicate, show 124 - pre.length + 4 = 128 - pre.length by omega]
  rw [slL, e, List.take_append_of_le_length (by omega), List.take_of_length_le (by omega), putL_at _ 124 hl.symm _ 4 4 (by omega)]
  simp [sealL]
theorem putL_byt {zs : List Int} (h : Byt zs) (off : Nat) (v : Int) : ∀ n, Byt (putL zs off v n)
  | 0 => h
  | n + 1 => fun i => by
    have ih := putL_byt h off v n i
    rw [putL, List.getD_eq_getElem?_getD, List.getElem?_set]
    by_cases e : off + n = i
    · by_cases hl : off + n < (putL zs off v n).length
      · rw [if_pos e, if_pos hl]; exact leB_small v n
      · rw [if_pos e, if_neg hl]; simp
    · rw [if_neg e, ← List.getD_eq_getElem?_getD]; exact ih

theorem headL_byt (kd nm : Int) (hk : 0 ≤ kd ∧ kd < 256) (hm : 0 ≤ nm ∧ nm < 256) : Byt (headL kd nm) := by
  intro i
  match i with
  | 0 => simp [headL]; omega
  | 1 => simp [headL]; omega
  | i + 2 => have := Byt.zeros 126 i; simpa [headL] using this

set_option maxRecDepth 100000 in
set_option maxHeartbeats 2000000 in
theorem encodeForm_leaf  {w : World} (hl : (headL 1 0).length = 128) (hby : Byt (headL 1 0))
    (hC : Calls Tryz.prog 104 #[.agg #[.int .i64 1, .int .i64 0, .slice none 0 0]] w fun e w' => e = .returned .nilIface ∧ Below w.heap.size w w')
    (hY : ∀ W, Below w.heap.size w W → Calls Tryz.prog 105 #[.agg #[.int .i64 1, .int .i64 0, .slice none 0 0]] W fun e W' => e = .returned (.agg (u8s (headL 1 0))) ∧ Below W.heap.size W W') :
    Calls Tryz.prog 53 #[.iface 125 (.agg #[.int .i64 1, .int .i64 0, .slice none 0 0])] w fun e w' => ∃ g, e = .returned (.tuple #[.slice (some ⟨g, 0, none⟩) 128 128, .nilIface]) ∧ w.heap.size ≤ g ∧ Dat w' g 121 (slL (headL 1 0)) ∧ Below w.heap.size w w' := by
  have mC : ∀ (v : Value) (w : World), (Go.method 307 125 v "loop.example/s01595/impl.check").run Tryz.prog w = .ok (104, v) w := fun v w => by kernel_rfl
  have mL : ∀ (v : Value) (w : World), (Go.method 307 125 v "loop.example/s01595/impl.lay").run Tryz.prog w = .ok (105, v) w := fun v w => by kernel_rfl
  generalize headL 1 0 = ds at *
  have HSL : Hid (putL ds 124 (crcOf (ds.take 124)) 4 = slL ds) := rfl
  have hT := slL_length hl
  go_enter Tryz.func53, Tryz.ntmps53
  go_wp2_with fail
  refine hC.mono ?_
  rintro e w1 ⟨rfl, hb1⟩
  go_wp2_with fail
  refine (hY w1 hb1).mono ?_
  rintro e w2 ⟨rfl, hb2⟩
  have hB2 := hb1.trans (hb2.mono hb1.size)
  go_wp2_with fail
  refine (sealed_any ds hl hby w2).mono ?_
  rintro e w3 ⟨rfl, hb3⟩
  rw [HSL.out]
  have hB3 := hB2.trans (hb3.mono hB2.size)
  have hs3 := hB3.size
  have hA : Dat (w3.alloc (.cells (u8s (slL ds)) 121)) w3.heap.size 121 (slL ds) := heap_alloc_new w3 _
  have hB4 := fun o => hB3.trans ((belowA w3 o).mono hB3.size)
  clear hb1 hb2 hb3 hB2 hB3 hC hY
  go_wp2_with (first | ((with_reducible refine wpList_alloc128 ?_ ?_); exact ⟨rfl, rfl⟩) | ((with_reducible refine wpList_store_new hT ?_ ?_); exact ⟨rfl, _, _, _, rfl, rfl, rfl, rfl⟩))
  exact bodyPost_ret (v := .tuple #[.slice (some ⟨w3.heap.size, 0, none⟩) 128 128, .nilIface]) (by simp [results, Tryz.results53, go_sem]) rfl ⟨_, rfl, hs3, hA, hB4 _⟩

set_option maxHeartbeats 1000000 in
theorem codeNil (w : World) : Calls Tryz.prog 52 #[.nilIface] w fun e w' => e = .returned (.int .i64 0) ∧ Below w.heap.size w w' := by
  have hb := belowA w
  go_enter Tryz.func52, Tryz.ntmps52
  go_wp2
  go_ret
  exact ⟨rfl, hb _⟩

set_option maxHeartbeats 1000000 in
theorem headerOf_good (k n : Int) (hn : -9223372036854775808 ≤ n ∧ n ≤ 9223372036854775807) (w : World) : Calls Tryz.prog 55 #[.int .i64 k, .int .i64 n] w fun e w' => e = .returned (.agg #[.int .i64 k, .int .i64 n]) ∧ Below w.heap.size w w' := by
  have hb := belowA w
  go_enter Tryz.func55, Tryz.ntmps55
  go_wp2
  exact bodyPost_ret (v := .agg #[.int .i64 k, .int .i64 n]) (by simp [results, Tryz.results55, go_sem]) rfl ⟨rfl, hb _⟩

set_option maxHeartbeats 1000000 in
theorem checkNumber1 (w : World) : Calls Tryz.prog 97 #[.agg #[.int .i64 1, .int .i64 0]] w fun e w' => e = .returned .nilIface ∧ Below w.heap.size w w' := by
  have hb0 := belowA w (.cells #[.int .i64 1, .int .i64 0] 113)
  go_enter Tryz.func97, Tryz.ntmps97
  go_wp2_with fail
  refine (within_any _ _ _ _).mono ?_
  rintro e w1 ⟨rfl, rfl⟩
  rw [inB_true (by omega)]
  go_wp2
  go_ret
  exact ⟨rfl, hb0⟩

set_option maxHeartbeats 1000000 in
theorem checkKeys0 (w : World) : Calls Tryz.prog 106 #[.slice none 0 0] w fun e w' => e = .returned .nilIface ∧ w = w' := by
  go_enter Tryz.func106, Tryz.ntmps106
  go_wp2
  go_loopw [8] (fun i wr => i = .int .i64 0 ∧ w = wr) (fun _ _ => 0)
  case atStart => exact ⟨rfl, rfl⟩
  case round =>
    obtain ⟨rfl, rfl⟩ := hrel
    go_wp2
    go_ret
    exact ⟨rfl, rfl⟩

set_option maxHeartbeats 1000000 in
theorem leafCheck0 (w : World) : Calls Tryz.prog 104 #[.agg #[.int .i64 1, .int .i64 0, .slice none 0 0]] w fun e w' => e = .returned .nilIface ∧ Below w.heap.size w w' := by
  have hb0 := belowA w (.cells #[.int .i64 1, .int .i64 0, .slice none 0 0] 125)
  go_enter Tryz.func104, Tryz.ntmps104
  go_wp2_with fail
  refine (checkNumber1 _).mono ?_
  rintro e w1 ⟨rfl, hb1⟩
  have hB1 := hb0.trans (hb1.mono hb0.size)
  have c2 : w1.cell? ⟨w.heap.size, 2, none⟩ = some (.slice none 0 0) := (hb1.cell (p := ⟨w.heap.size, 2, none⟩) (by simp)).trans (World.cell?_alloc_at _ _ _ _ rfl)
  clear hb0 hb1
  go_wp2
  go_loopw [15] (fun i wr => i = .int .i64 0 ∧ w1 = wr) (fun _ _ => 0)
  case atStart => exact ⟨rfl, rfl⟩
  case round =>
    obtain ⟨rfl, rfl⟩ := hrel
    go_wp2_with fail
    refine (checkKeys0 _).mono ?_
    rintro e w2 ⟨rfl, rfl⟩
    go_wp2
    go_ret
    exact ⟨rfl, hB1⟩

set_option maxRecDepth 100000 in
set_option maxHeartbeats 2000000 in
theorem leafLay0 (w : World) : Calls Tryz.prog 105 #[.agg #[.int .i64 1, .int .i64 0, .slice none 0 0]] w fun e w' => e = .returned (.agg (u8s (headL 1 0))) ∧ Below w.heap.size w w' := by
  have hh := headL_length 1 0
  go_enter Tryz.func105, Tryz.ntmps105
  go_wp2_with fail
  obtain ⟨W0, HW⟩ : ∃ W0, Hid (W0 = (w.alloc (.cells #[.int .i64 1, .int .i64 0, .slice none 0 0] 125)).alloc (.cells Tryz.zeroCells121 121)) := ⟨_, rfl⟩
  rw [← HW.out]
  refine (begin_any 1 0 (by omega) (by omega) W0).mono ?_
  rintro e w2 ⟨rfl, hb2⟩
  have e2 : W0.cell? ⟨w.heap.size, 2, none⟩ = some (.slice none 0 0) := by
    rw [HW.out, World.cell?_alloc_lt _ _ ⟨w.heap.size, 2, none⟩ (by simp), World.cell?_alloc_at _ _ _ _ rfl]; rfl
  have e3 : W0.there (w.heap.size + 1) 0 128 := by rw [HW.out, zeroRaw]; exact there_new _ _ (by simp)
  have e4 : W0.heap.size = w.heap.size + 1 + 1 := by rw [HW.out]; simp
  have e5 : Below w.heap.size w W0 := by rw [HW.out]; exact ((Below.refl _ _).alloc (Nat.le_refl _) _).alloc (by simp) _
  obtain ⟨W3, HW3⟩ : ∃ W3, Hid (W3 = w2.alloc (.cells (u8s (headL 1 0)) 121)) := ⟨_, rfl⟩
  have hb3 : Below W0.heap.size W0 W3 := by rw [HW3.out]; exact hb2.trans ((belowA w2 _).mono hb2.size)
  have hR3 : Rng8 W3 w2.heap.size 0 (headL 1 0) := by rw [HW3.out]; exact rng_new _ _ hh _ _ rfl
  have c2 : W3.cell? ⟨w.heap.size, 2, none⟩ = some (.slice none 0 0) := (hb3.cell (p := ⟨w.heap.size, 2, none⟩) (show w.heap.size < W0.heap.size by omega)).trans e2
  have hT3 : W3.there (w.heap.size + 1) 0 128 := there_block e3 (hb3.block _ (by omega))
  have HBL : Hid (Below w.heap.size w (W3.setCells (w.heap.size + 1) 0 ((headL 1 0).map (Value.int .u8)))) := Below.setCells (e5.trans (hb3.mono e5.size)) (by omega) _ _
  have HRS : Hid _ := Rng8.stored hT3 hh
  have c2w : w2.cell? ⟨w.heap.size, 2, none⟩ = some (.slice none 0 0) := (hb2.cell (p := ⟨w.heap.size, 2, none⟩) (show w.heap.size < W0.heap.size by omega)).trans e2
  have hlt2 : w.heap.size < w2.heap.size := by have := hb2.size; omega
  clear hb2 hb3 e2 e3 e4 e5 HW
  go_wp2_with (first | ((with_reducible refine wpList_alloc128 ?_ ?_); exact ⟨rfl, rfl⟩) | ((with_reducible refine wpList_store_new hh ?_ ?_); exact ⟨rfl, _, _, _, rfl, rfl, rfl, rfl⟩))
  rw [← HW3.out]
  clear c2w hlt2
  go_loopw [13] (fun i wr => i = .int .i64 0 ∧ W3 = wr) (fun _ _ => 0)
  case atStart => exact ⟨rfl, rfl⟩
  case round =>
    obtain ⟨rfl, rfl⟩ := hrel
    go_wp2_with (first | ((with_reducible refine wpList_load128 hR3 ?_ ?_); exact ⟨rfl, _, rfl, rfl⟩) | ((with_reducible refine wpList_store128 hT3 hh ?_ ?_); exact ⟨rfl, _, _, rfl, rfl, rfl⟩))
    exact bodyPost_ret (result_rng Tryz.results105 rfl HRS.out) rfl ⟨rfl, HBL.out⟩

set_option maxRecDepth 100000 in
set_option maxHeartbeats 2000000 in
theorem formOfLeaf (w : World) : Calls Tryz.prog 51 #[.agg #[.int .i64 1, .slice none 0 0]] w fun e w' => e = .returned (.tuple #[.iface 125 (.agg #[.int .i64 1, .int .i64 0, .slice none 0 0]), .nilIface]) ∧ Below w.heap.size w w' := by
  have hb0 := belowA w (.cells #[.int .i64 1, .slice none 0 0] 54)
  go_enter Tryz.func51, Tryz.ntmps51
  go_wp2_with fail
  refine (headerOf_good _ _ (by omega) _).mono ?_
  rintro e w1 ⟨rfl, hb1⟩
  have c0 : w1.cell? ⟨w.heap.size, 0, none⟩ = some (.int .i64 1) := (hb1.cell (p := ⟨w.heap.size, 0, none⟩) (by simp)).trans (World.cell?_alloc_at _ _ _ _ rfl)
  have c1 : w1.cell? ⟨w.heap.size, 1, none⟩ = some (.slice none 0 0) := (hb1.cell (p := ⟨w.heap.size, 1, none⟩) (by simp)).trans (World.cell?_alloc_at _ _ _ _ rfl)
  have hlt : w.heap.size < w1.heap.size := by have := hb1.size; simp at this; omega
  have hB1 := hb0.trans (hb1.mono hb0.size)
  have hB2 := fun o => hB1.trans ((belowA w1 o).mono hB1.size)
  clear hb0 hb1
  go_wp2
  exact bodyPost_ret (v := .tuple #[.iface 125 (.agg #[.int .i64 1, .int .i64 0, .slice none 0 0]), .nilIface]) (by simp [results, Tryz.results51, go_sem]) rfl ⟨rfl, hB2 _⟩

set_option maxRecDepth 100000 in
set_option maxHeartbeats 2000000 in
theorem implEncLeaf (w : World) : Calls Tryz.prog 37 #[.agg #[.int .i64 1, .slice none 0 0]] w fun e w' => ∃ g, e = .returned (.tuple #[.slice (some ⟨g, 0, none⟩) 128 128, .int .i64 0]) ∧ w.heap.size ≤ g ∧ Dat w' g 121 (slL (headL 1 0)) ∧ Below w.heap.size w w' := by
  have hb0 := belowA w (.cells #[.int .i64 1, .slice none 0 0] 54)
  go_enter Tryz.func37, Tryz.ntmps37
  go_wp2_with fail
  refine (formOfLeaf _).mono ?_
  rintro e w1 ⟨rfl, hb1⟩
  have hB1 := hb0.trans (hb1.mono hb0.size)
  go_wp2_with fail
  refine (encodeForm_leaf (headL_length 1 0) (headL_byt 1 0 (by omega) (by omega)) (leafCheck0 _) (fun W _ => leafLay0 W)).mono ?_
  rintro e w2 ⟨g, rfl, hg, hD, hb2⟩
  have hB2 := hB1.trans (hb2.mono hB1.size)
  go_wp2_with fail
  refine (codeNil _).mono ?_
  rintro e w3 ⟨rfl, hb3⟩
  have hD3 := hD.below hb3
  have hB3 := hB2.trans (hb3.mono hB2.size)
  have hg1 : w.heap.size ≤ g := Nat.le_trans hB1.size hg
  clear hb0 hb1 hb2 hb3 hD
  go_wp2
  exact bodyPost_ret (v := .tuple #[.slice (some ⟨g, 0, none⟩) 128 128, .int .i64 0]) (by simp [results, Tryz.results37, go_sem]) rfl ⟨g, rfl, hg1, hD3, hB3⟩

end Go.Proofs.YtpjdhfbeofdplaaGreatDoor

import Derived.Test.YtfbjagjgofdheaaGreatDoorGd
import Derived.Test.YtfbjagjgofdheaaGreatDoorInv
import Derived.Laws.BitsAllLaws
namespace Go.Proofs.YtfbjagjgofdheaaGreatDoor
open Go.RowKit
set_option linter.unusedVariables false

theorem enters {f : FuncId} {fn : Func} {c : Code} (hf : Tryz.prog.funcs[f]? = some fn) (hname : (fn.name == "runtime.NumGoroutine") = false) (hb : fn.body = some c) (args : Array Value) (w : World) :
    (callFunc f args).run Tryz.prog w = .ok (.enter f args) w := by
  have h1 : fn.name ≠ "runtime.NumGoroutine" := by simpa using hname
  simp [callFunc, hf, h1, hb]

/-- the slice lies in a block of its own -/
def Fsh (B : Nat) (a : Option Addr) : Prop := ∀ p, a = some p → B ≤ p.block
/-- a form: its type ty, its methods check and lay, what a value of it is in a world -/
structure Frmd (ty fC fL : Nat) (R : World → Value → Prop) (L : List Int) : Prop where
  keep : ∀ w w' v, R w v → Below w.heap.size w w' → R w' v
  mC : ∀ v w, (Go.method 284 ty v "loop.example/s01595/impl.check").run Tryz.prog w = .ok (fC, v) w
  mL : ∀ v w, (Go.method 284 ty v "loop.example/s01595/impl.lay").run Tryz.prog w = .ok (fL, v) w
  eC : ∀ args w, (callFunc fC args).run Tryz.prog w = .ok (.enter fC args) w
  eL : ∀ args w, (callFunc fL args).run Tryz.prog w = .ok (.enter fL args) w
  check : ∀ w v, R w v → Calls Tryz.prog fC #[v] w fun e w' => e = .returned .nilIface ∧ Below w.heap.size w w'
  lay : ∀ w v, R w v → Calls Tryz.prog fL #[v] w fun e w' => e = .returned (.agg (u8s L)) ∧ Below w.heap.size w w'
  len : L.length = 128
  byt : Byt L

set_option maxRecDepth 100000 in
set_option maxHeartbeats 2000000 in
theorem encodeForm_gen {ty fC fL : Nat} {R : World → Value → Prop} {L : List Int} (hF : Frmd ty fC fL R L) (v : Value) (w : World) (hv : R w v) :
    Calls Tryz.prog 30 #[.iface ty v] w fun e w' => ∃ g, e = .returned (.tuple #[.slice (some ⟨g, 0, none⟩) 128 128, .nilIface]) ∧ w.heap.size ≤ g ∧ Arr w' g (putL L 124 (crcOf (L.take 124)) 4) ∧ Below w.heap.size w w' := by
  have mC := hF.mC
  have mL := hF.mL
  have eC := hF.eC
  have eL := hF.eL
  have HC : Hid _ := hF.check
  have HL : Hid _ := hF.lay
  have HK : Hid _ := hF.keep
  have hlen := hF.len
  have hbyt := hF.byt
  have hT : (putL L 124 (crcOf (L.take 124)) 4).length = 128 := by rw [putL_length]; exact hlen
  have HTB : Hid (Byt (putL L 124 (crcOf (L.take 124)) 4)) := putL_bytG hbyt _ _ _
  have HSE : Hid _ := fun w => sealed_any L hlen hbyt w
  have HV : Hid (R w v) := hv
  clear hF hv
  generalize putL L 124 (crcOf (L.take 124)) 4 = pz at *
  go_enter Tryz.func30, Tryz.ntmps30
  go_wp2_with fail
  refine (HC.out _ _ HV.out).mono ?_
  rintro e w1 ⟨rfl, hb1⟩
  have HV1 : Hid (R w1 v) := HK.out _ _ _ HV.out hb1
  go_wp2_with fail
  refine (HL.out _ _ HV1.out).mono ?_
  rintro e w2 ⟨rfl, hb2⟩
  have hB2 := hb1.trans (hb2.mono hb1.size)
  go_wp2_with fail
  refine (HSE.out w2).mono ?_
  rintro e w3 ⟨rfl, hb3⟩
  have hB3 := hB2.trans (hb3.mono hB2.size)
  have hs3 := hB3.size
  have hA := Arr.new w3 pz hT HTB.out 100
  have hB4 := fun o => hB3.trans ((belowA w3 o).mono hB3.size)
  clear hb1 hb2 hb3 hB2 hB3 mC mL eC eL HC HL HK HSE HV HV1 hbyt
  go_wp2_with (first | ((with_reducible refine wpList_alloc128 ?_ ?_); exact ⟨rfl, rfl⟩) | ((with_reducible refine wpList_store_new hT ?_ ?_); exact ⟨rfl, _, _, _, rfl, rfl, rfl, rfl⟩))
  exact bodyPost_ret (v := .tuple #[.slice (some ⟨w3.heap.size, 0, none⟩) 128 128, .nilIface]) (by simp [results, Tryz.results30, go_sem]) rfl ⟨_, rfl, hs3, hA, hB4 _⟩

set_option maxRecDepth 100000 in
set_option maxHeartbeats 2000000 in
theorem decodeForm_gen {ty fC fL : Nat} {R : World → Value → Prop} {zs : List Int} (hF : Frmd ty fC fL R (putL zs 124 0 4)) (hl : zs.length = 128) (hz : Byt zs) (hsl : Sld zs)
    (b off c : Nat) (w : World)
    (hr : ∀ w1, w.heap.size ≤ w1.heap.size → Calls Tryz.prog 47 #[.agg (u8s zs)] w1 fun e w' => (∃ v, e = .returned (.tuple #[.iface ty v, .nilIface]) ∧ R w' v) ∧ Below w1.heap.size w1 w') (hv : Bts w (.slice (some ⟨b, off, none⟩) 128 c) zs) :
    Calls Tryz.prog 31 #[.slice (some ⟨b, off, none⟩) 128 c] w fun e w' => (∃ v, e = .returned (.tuple #[.iface ty v, .nilIface]) ∧ R w' v) ∧ Below w.heap.size w w' := by
  have mC := hF.mC
  have mL := hF.mL
  have eC := hF.eC
  have eL := hF.eL
  have HC : Hid _ := hF.check
  have HL : Hid _ := hF.lay
  have HK : Hid _ := hF.keep
  have hlen := hF.len
  have hbyt := hF.byt
  have harr := fun a c w => arrayAt_any a 128 c w (Nat.le_refl _)
  have hR0 := Rng8.of_bts hv rfl hl
  have hn1 : ∀ w, (Op.equalIn 10000 100 (.agg (u8s zs)) (.agg (u8s zs))).run Tryz.prog w = .ok true w := fun w => by
    rw [arr_eq _ _ hl hl hz hz w, decide_eq_true rfl]
  have hn2 : ∀ w, (Op.equalIn 10000 100 (.agg (u8s (putL zs 124 0 4))) (.agg (u8s (putL zs 124 0 4)))).run Tryz.prog w = .ok true w := fun w => by
    rw [arr_eq _ _ hlen hlen hbyt hbyt w, decide_eq_true rfl]
  have HS : Hid (∀ w, Calls Tryz.prog 46 #[.agg (u8s zs)] w fun e w' => e = .returned (.agg (u8s zs)) ∧ Below w.heap.size w w') := fun w => by
    have q := sealed_any zs hl hz w
    unfold Sld at hsl
    rwa [hsl] at q
  have HU : Hid _ := fun w => unsealed_any zs hl hz w
  have HR : Hid _ := hr
  generalize putL zs 124 0 4 = pz at *
  clear hv hF hr hsl
  go_enter Tryz.func31, Tryz.ntmps31
  go_wp2_with (first | ((with_reducible refine wpList_load128 hR0 ?_ ?_); exact ⟨rfl, _, rfl, rfl⟩) | ((with_reducible refine wpList_alloc128 ?_ ?_); exact ⟨rfl, rfl⟩) | ((with_reducible refine wpList_store_new hl ?_ ?_); exact ⟨rfl, _, _, _, rfl, rfl, rfl, rfl⟩))
  have hb0 := belowA w (.cells (u8s zs) 100)
  have hR1 := rng_new w zs hl 100 w.heap.size rfl
  have hs0 : w.heap.size < (w.alloc (.cells (u8s zs) 100)).heap.size := by simp
  generalize w.alloc (.cells (u8s zs) 100) = W1 at *
  have HB0 : Hid (Below w.heap.size w W1) := hb0
  clear hR0 hb0
  have hk2 : ∀ X : World, Below W1.heap.size W1 X → Rng8 X w.heap.size 0 zs := fun X h => hR1.block (h.block _ hs0)
  go_simp
  refine wp_region_E (fun w' => Rng8 w' w.heap.size 0 zs) 99 (by kernel_rfl) ?_
  have hq0 : (fun w' => Rng8 w' w.heap.size 0 zs) W1.drew := hR1.block rfl
  refine wpAnyE_takeN (i := 0) 21 (.agg (u8s zs)) (by show 4 ≤ 99; omega) rfl (by kernel_rfl) (by kernel_rfl) (by kernel_rfl) (fun _ _ _ h => h) rfl rfl hq0 (fun w' hw => exec_load128 hw ⟨_, rfl, rfl⟩) ?_
  simp only [Act.put, List.setIfInBounds_toArray, List.set_cons_zero, List.set_cons_succ]
  refine wpAnyE_takeN (i := 2) 23 (.agg (u8s zs)) (by show 4 ≤ 99; omega) rfl (by kernel_rfl) (by kernel_rfl) (by kernel_rfl) (fun _ _ _ h => h) rfl rfl hq0 (fun w' hw => exec_load128 hw ⟨_, rfl, rfl⟩) ?_
  simp only [Act.put, List.setIfInBounds_toArray, List.set_cons_zero, List.set_cons_succ]
  refine wpAnyE_one (i := 1) (by kernel_rfl) rfl rfl (fun K2 hK2 => ?_)
  go_simp
  refine (HS.out W1.drew).mono ?_
  rintro e w2 ⟨rfl, hb2⟩
  have hR2 := hk2 w2 ((Below.refl _ _).drew.trans hb2)
  refine hK2 _ _ (fun _ => hR2) ?_
  clear hK2 K2
  refine wpAnyE_one (i := 3) (by kernel_rfl) rfl rfl (fun K2 hK2 => ?_)
  go_simp
  refine hK2 _ _ (fun _ => hR2) ?_
  clear hK2 K2
  refine wpAnyE_done (by kernel_rfl) ?_ _
  have hs1 : w.heap.size < W1.heap.size := hs0
  have hB2 : Below w.heap.size w w2 := HB0.out.trans (((Below.refl _ _).drew.trans hb2).mono HB0.out.size)
  have hs2 : w.heap.size < w2.heap.size := Nat.lt_of_lt_of_le hs1 hb2.size
  clear hk2 hq0 hR1 hb2 hs0 HS harr hn1 hs1
  go_wp2_with (first | ((with_reducible refine wpList_load128 hR2 ?_ ?_); exact ⟨rfl, _, rfl, rfl⟩))
  refine (HR.out _ hB2.size).mono ?_
  rintro e w3 ⟨⟨v, rfl, hrv⟩, hb3⟩
  have HRV : Hid (R w3 v) := hrv
  have hR3 := hR2.block (hb3.block _ hs2)
  have hB3 := hB2.trans (hb3.mono hB2.size)
  have hs3 : w.heap.size < w3.heap.size := Nat.lt_of_lt_of_le hs2 hb3.size
  clear hrv hb3 hR2 hB2 hs2 HR
  go_wp2_with fail
  refine (HC.out _ _ HRV.out).mono ?_
  rintro e w4 ⟨rfl, hb4⟩
  have HRV4 : Hid (R w4 v) := HK.out _ _ _ HRV.out hb4
  have hR4 := hR3.block (hb4.block _ hs3)
  have hB4 := hB3.trans (hb4.mono hB3.size)
  have hs4 : w.heap.size < w4.heap.size := Nat.lt_of_lt_of_le hs3 hb4.size
  clear hb4 hR3 hB3 hs3 HC HRV
  go_wp2_with fail
  refine (HL.out _ _ HRV4.out).mono ?_
  rintro e w5 ⟨rfl, hb5⟩
  have HRV5 : Hid (R w5 v) := HK.out _ _ _ HRV4.out hb5
  have hR5 := hR4.block (hb5.block _ hs4)
  have hB5 := hB4.trans (hb5.mono hB4.size)
  have hs5 : w.heap.size < w5.heap.size := Nat.lt_of_lt_of_le hs4 hb5.size
  clear hb5 hR4 hB4 hs4 HL HRV4
  have hb6 := belowA w5 (.cells (u8s pz) 100)
  have HRV6 : Hid (R (w5.alloc (.cells (u8s pz) 100)) v) := HK.out _ _ _ HRV5.out hb6
  have hR6 : Rng8 (w5.alloc (.cells (u8s pz) 100)) w.heap.size 0 zs := hR5.block (hb6.block _ hs5)
  have hP6 := rng_new w5 pz hlen 100 w5.heap.size rfl
  have hB6 := hB5.trans (hb6.mono hB5.size)
  clear hb6 hR5 hB5 HRV5
  go_wp2_with (first | ((with_reducible refine wpList_alloc128 ?_ ?_); exact ⟨rfl, rfl⟩) | ((with_reducible refine wpList_store_new hlen ?_ ?_); exact ⟨rfl, _, _, _, rfl, rfl, rfl, rfl⟩))
  generalize w5.heap.size = g5 at *
  generalize w5.alloc (.cells (u8s pz) 100) = W6 at *
  go_simp
  refine wp_region_E (fun w' => Rng8 w' w.heap.size 0 zs ∧ Rng8 w' g5 0 pz) 99 (by kernel_rfl) ?_
  have hq1 : (fun w' => Rng8 w' w.heap.size 0 zs ∧ Rng8 w' g5 0 pz) W6.drew := ⟨hR6.block rfl, hP6.block rfl⟩
  refine wpAnyE_takeN (i := 0) 44 (.agg (u8s pz)) (by show 4 ≤ 99; omega) rfl (by kernel_rfl) (by kernel_rfl) (by kernel_rfl) (fun _ _ _ h => h) rfl rfl hq1 (fun w' hw => exec_load128 hw.2 ⟨_, rfl, rfl⟩) ?_
  simp only [Act.put, List.setIfInBounds_toArray, List.set_cons_zero, List.set_cons_succ]
  refine wpAnyE_takeN (i := 1) 45 (.agg (u8s zs)) (by show 4 ≤ 99; omega) rfl (by kernel_rfl) (by kernel_rfl) (by kernel_rfl) (fun _ _ _ h => h) rfl rfl hq1 (fun w' hw => exec_load128 hw.1 ⟨_, rfl, rfl⟩) ?_
  simp only [Act.put, List.setIfInBounds_toArray, List.set_cons_zero, List.set_cons_succ]
  refine wpAnyE_one (i := 2) (by kernel_rfl) rfl rfl (fun K2 hK2 => ?_)
  go_simp
  refine (HU.out W6.drew).mono ?_
  rintro e w7 ⟨rfl, hb7⟩
  have hb7' : Below W6.heap.size W6 w7 := (Below.refl _ _).drew.trans hb7
  have hq7 : Rng8 w7 w.heap.size 0 zs ∧ Rng8 w7 g5 0 pz := ⟨hR6.block (hb7'.block _ (World.block_lt_of_cell? _ _ (hR6.2 0 (by omega)))), hP6.block (hb7'.block _ (World.block_lt_of_cell? _ _ (hP6.2 0 (by omega))))⟩
  refine hK2 _ _ (fun _ => hq7) ?_
  clear hK2 K2
  refine wpAnyE_one (i := 3) (by kernel_rfl) rfl rfl (fun K2 hK2 => ?_)
  go_simp
  refine hK2 _ _ (fun _ => hq7) ?_
  clear hK2 K2
  refine wpAnyE_done (by kernel_rfl) ?_ _
  have HRV7 : Hid (R w7 v) := HK.out _ _ _ HRV6.out hb7'
  have hB7 := hB6.trans (hb7'.mono hB6.size)
  clear hq1 hq7 hb7 hb7' hR6 hP6 HRV6 HU hn2 HK mC mL eC eL
  go_wp2
  exact bodyPost_ret (v := .tuple #[.iface ty v, .nilIface]) (by simp [results, Tryz.results31, go_sem]) rfl ⟨⟨_, rfl, HRV7.out⟩, hB7⟩
end Go.Proofs.YtfbjagjgofdheaaGreatDoor

namespace Go.Proofs.YtfbjagjgofdheaaGreatDoor
open Go.RowKit
set_option linter.unusedVariables false

set_option maxHeartbeats 1000000 in
/-- a kind's number of elements within its bounds -/
theorem checkNumber_ok (k n : Int) (h : (k = 1 ∧ 0 ≤ n ∧ n ≤ 5) ∨ (k = 2 ∧ 2 ≤ n ∧ n ≤ 5) ∨ (k = 3 ∧ 0 ≤ n ∧ n ≤ 20) ∨ (k = 4 ∧ 1 ≤ n ∧ n ≤ 16)) (w : World) :
    Calls Tryz.prog 62 #[.agg #[.int .i64 k, .int .i64 n]] w fun e w' => e = .returned .nilIface ∧ Below w.heap.size w w' := by
  have hb0 := belowA w (.cells #[.int .i64 k, .int .i64 n] 73)
  go_enter Tryz.func62, Tryz.ntmps62
  rcases h with ⟨rfl, hn⟩ | ⟨rfl, hn⟩ | ⟨rfl, hn⟩ | ⟨rfl, hn⟩
  all_goals
    go_wp2_with fail
    refine (within_any _ _ _ _).mono ?_
    rintro e w1 ⟨rfl, rfl⟩
    rw [inB_true hn]
    go_wp2
    go_ret
    exact ⟨rfl, hb0⟩

set_option maxRecDepth 100000 in
set_option maxHeartbeats 2000000 in
theorem checkRuns_ok (v : Value) (rs : List R3) (w : World) (hv : RRead w v rs) (hn : rs.length ≤ 1048576) (hok : okC rs) :
    Calls Tryz.prog 102 #[v] w fun e w' => e = .returned .nilIface ∧ Below w.heap.size w w' := by
  obtain ⟨a, cap, rfl, hc⟩ := hv
  have HOK : Hid (okC rs) := hok
  clear hok
  go_enter Tryz.func102, Tryz.ntmps102
  go_wp2
  go_loopw [8] (fun i wr => ∃ k : Nat, k ≤ rs.length ∧ i = .int .i64 k ∧ Below w.heap.size w wr) (fun i _ => rs.length - (intOf i).toNat)
  case atStart => exact ⟨0, Nat.zero_le _, rfl, Below.refl _ _⟩
  case round =>
    obtain ⟨k, hk, rfl, hb⟩ := hrel
    by_cases hlt : k < rs.length
    · obtain ⟨b, off, rfl, hcell⟩ := hc (by omega)
      obtain ⟨g1, g2, g3⟩ := hcell k hlt
      have hbw : b < w.heap.size := World.block_lt_of_cell? _ _ g1
      rw [← hb.cell (p := ⟨b, off + k * 3, none⟩) hbw] at g1
      rw [← hb.cell (p := ⟨b, off + k * 3 + 1, none⟩) hbw] at g2
      rw [← hb.cell (p := ⟨b, off + k * 3 + 2, none⟩) hbw] at g3
      have hi : (k : Int) < (rs.length : Int) := by omega
      have HC : Hid (∀ j, j < rs.length → w.cell? ⟨b, off + j * 3, none⟩ = some (.int .i64 (rs.getD j (0, 0, 0)).1) ∧ w.cell? ⟨b, off + j * 3 + 1, none⟩ = some (.int .i64 (rs.getD j (0, 0, 0)).2.1) ∧ w.cell? ⟨b, off + j * 3 + 2, none⟩ = some (.int .i64 (rs.getD j (0, 0, 0)).2.2)) := hcell
      obtain ⟨p, HP⟩ : ∃ p, Hid (rs.getD k (0, 0, 0) = p) := ⟨_, rfl⟩
      have hin := (HOK.out k hlt).1
      rw [HP.out] at g1 g2 g3 hin
      obtain ⟨x, y, z⟩ := p
      simp only at g1 g2 g3
      clear hc hcell
      go_wp2_with fail
      have hbA := belowA wr (.cells #[.int .i64 x, .int .i64 y, .int .i64 z] 78)
      refine (inBounds_any x y z _).mono ?_
      rintro e w1 ⟨rfl, hb1⟩
      have hbx := hbA.trans (hb1.mono hbA.size)
      have hb2 := hb.trans (hbx.mono hb.size)
      have x0 : w1.cell? ⟨wr.heap.size, 0, none⟩ = some (.int .i64 x) := (hb1.cell (p := ⟨wr.heap.size, 0, none⟩) (by simp)).trans (World.cell?_alloc_at _ _ _ _ rfl)
      have x1 : w1.cell? ⟨wr.heap.size, 1, none⟩ = some (.int .i64 y) := (hb1.cell (p := ⟨wr.heap.size, 1, none⟩) (by simp)).trans (World.cell?_alloc_at _ _ _ _ rfl)
      have x2 : w1.cell? ⟨wr.heap.size, 2, none⟩ = some (.int .i64 z) := (hb1.cell (p := ⟨wr.heap.size, 2, none⟩) (by simp)).trans (World.cell?_alloc_at _ _ _ _ rfl)
      have hs1 := hbx.size
      clear g1 g2 g3 hbA hb1
      rw [inRb_t hin]
      clear hin
      by_cases hk0 : 0 < k
      · have hprev := (HOK.out (k - 1) (by omega)).1
        have hf := (HOK.out k hlt).2 hk0
        obtain ⟨g1, g2, g3⟩ := HC.out (k - 1) (by omega)
        rw [← hb2.cell (p := ⟨b, off + (k - 1) * 3, none⟩) hbw] at g1
        rw [← hb2.cell (p := ⟨b, off + (k - 1) * 3 + 1, none⟩) hbw] at g2
        rw [← hb2.cell (p := ⟨b, off + (k - 1) * 3 + 2, none⟩) hbw] at g3
        obtain ⟨pp, HQ⟩ : ∃ p, Hid (rs.getD (k - 1) (0, 0, 0) = p) := ⟨_, rfl⟩
        rw [HQ.out] at g1 g2 g3 hprev hf
        rw [HP.out] at hf
        obtain ⟨p, q, r⟩ := pp
        simp only at g1 g2 g3
        have hw1 : IntKind.i64.wrap ((k : Int) - 1) = ((k - 1 : Nat) : Int) := (IntWalk.i64_in _ ⟨by omega, by omega⟩).trans (by omega)
        have hi1 : ((k - 1 : Nat) : Int) < (rs.length : Int) := by omega
        have hki : (0 : Int) < (k : Int) := by omega
        have hp1 := hprev.1
        have hp2 := hprev.2.1
        simp only at hp1 hp2
        have HFO : Hid (folb (p, q, r) (x, y, z) = true) := folb_t hf
        generalize hk1 : k - 1 = k1 at *
        have HX : Hid (w1.cell? ⟨wr.heap.size, 0, none⟩ = some (.int .i64 x) ∧ w1.cell? ⟨wr.heap.size, 1, none⟩ = some (.int .i64 y) ∧ w1.cell? ⟨wr.heap.size, 2, none⟩ = some (.int .i64 z) ∧ w1.cell? ⟨b, off + k1 * 3, none⟩ = some (.int .i64 p) ∧ w1.cell? ⟨b, off + k1 * 3 + 1, none⟩ = some (.int .i64 q) ∧ w1.cell? ⟨b, off + k1 * 3 + 2, none⟩ = some (.int .i64 r)) := ⟨x0, x1, x2, g1, g2, g3⟩
        clear hprev hf
        go_wp2_with fail
        go_region_held3 (fun w' => w'.cell? ⟨wr.heap.size, 0, none⟩ = some (.int .i64 x) ∧ w'.cell? ⟨wr.heap.size, 1, none⟩ = some (.int .i64 y) ∧ w'.cell? ⟨wr.heap.size, 2, none⟩ = some (.int .i64 z) ∧ w'.cell? ⟨b, off + k1 * 3, none⟩ = some (.int .i64 p) ∧ w'.cell? ⟨b, off + k1 * 3 + 1, none⟩ = some (.int .i64 q) ∧ w'.cell? ⟨b, off + k1 * 3 + 2, none⟩ = some (.int .i64 r)) (first | go_keep | assumption)
          ((go_at_call 103; refine (mayFollow_any x y z p q r (by omega) (by omega) _).mono ?_; rintro e w3 ⟨rfl, hb3⟩; have hXX := six_cells (w := w1.drew) HX.out rfl hb3))
        have hb4 : Below w.heap.size w w3 := hb2.drew.trans (hb3.mono hb2.size)
        clear hXX HX x0 x1 x2 g1 g2 g3 hb3
        rw [HFO.out]
        go_wp2
        go_roundw
        case rel => exact ⟨k + 1, by omega, by go_num, hb4⟩
        case measure => simp [intOf]; omega
      · have hki : ¬ (0 : Int) < (k : Int) := by omega
        go_wp2
        go_quiet (fail)
        go_wp2
        go_roundw
        case rel => exact ⟨k + 1, by omega, by go_num, below_drewN hb2 _⟩
        case measure => simp [intOf]; omega
    · clear hc
      go_wp2
      go_ret
      exact ⟨rfl, hb⟩

set_option maxRecDepth 100000 in
set_option maxHeartbeats 2000000 in
theorem checkT_ok (nx : Int) (a : Option Addr) (c : Nat) (rs : List R3) (w : World) (hv : RRead w (.slice a rs.length c) rs) (hok : tbOK nx rs) :
    Calls Tryz.prog 100 #[.agg #[.int .i64 3, .int .i64 rs.length, .int .i64 nx, .slice a rs.length c]] w fun e w' => e = .returned .nilIface ∧ Below w.heap.size w w' := by
  obtain ⟨hnx, hl, hC⟩ := hok
  have HC : Hid (okC rs) := hC.1
  have hb0 := belowA w (.cells #[.int .i64 3, .int .i64 rs.length, .int .i64 nx, .slice a rs.length c] 82)
  clear hC
  go_enter Tryz.func100, Tryz.ntmps100
  go_wp2_with fail
  refine (checkNumber_ok 3 _ (.inr (.inr (.inl ⟨rfl, by omega, by omega⟩))) _).mono ?_
  rintro e w1 ⟨rfl, hb1⟩
  have hB1 := hb0.trans (hb1.mono hb0.size)
  have k2 : w1.cell? ⟨w.heap.size, 2, none⟩ = some (.int .i64 nx) := (hb1.cell (p := ⟨w.heap.size, 2, none⟩) (by simp)).trans (World.cell?_alloc_at _ _ _ _ rfl)
  have k3 : w1.cell? ⟨w.heap.size, 3, none⟩ = some (.slice a rs.length c) := (hb1.cell (p := ⟨w.heap.size, 3, none⟩) (by simp)).trans (World.cell?_alloc_at _ _ _ _ rfl)
  have hrd := hv.below hB1
  clear hb0 hb1 hv
  rcases hnx with rfl | hi
  · go_wp2_with fail
    refine (checkRuns_ok _ rs _ hrd (by omega) HC.out).mono ?_
    rintro e w2 ⟨rfl, hb2⟩
    have hB2 := hB1.trans (hb2.mono hB1.size)
    go_wp2
    go_ret
    exact ⟨rfl, hB2⟩
  · have h0 : (nx != 0) = true := by simp; omega
    go_wp2_with fail
    refine (within_any _ _ _ _).mono ?_
    rintro e w3 ⟨rfl, rfl⟩
    rw [inB_true hi]
    go_wp2_with fail
    refine (checkRuns_ok _ rs _ hrd (by omega) HC.out).mono ?_
    rintro e w2 ⟨rfl, hb2⟩
    have hB2 := hB1.trans (hb2.mono hB1.size)
    go_wp2
    go_ret
    exact ⟨rfl, hB2⟩
end Go.Proofs.YtfbjagjgofdheaaGreatDoor

namespace Go.Proofs.YtfbjagjgofdheaaGreatDoor
open Go.RowKit
set_option linter.unusedVariables false

theorem i64_or_nat (a b : Nat) (ha : a < 2 ^ 62) (hb : b < 2 ^ 62) : bits .or .i64 (a : Int) (b : Int) = ((a ||| b : Nat) : Int) := by
  have hx : a ||| b < 2 ^ 62 := Nat.or_lt_two_pow ha hb
  have ea : (BitVec.ofInt 64 (a : Int)).toNat = a := by rw [BitVec.toNat_ofInt]; omega
  have eb : (BitVec.ofInt 64 (b : Int)).toNat = b := by rw [BitVec.toNat_ofInt]; omega
  show IntKind.i64.wrap ((BitVec.ofInt 64 (a : Int) ||| BitVec.ofInt 64 (b : Int)).toNat : Nat) = _
  rw [BitVec.toNat_or, ea, eb, IntKind.wrap_i64]
  omega
theorem or_up (a b k : Nat) (h : a < 2 ^ k) : a ||| (b * 2 ^ k) = a + b * 2 ^ k := by
  have := Nat.two_pow_add_eq_or_of_lt h b
  rw [Nat.or_comm, Nat.mul_comm, ← this, Nat.add_comm]

set_option maxHeartbeats 1000000 in
/-- a number of two bytes -/
theorem getNumber_two (x y : Nat) (hx : x < 256) (hy : y < 256) (b off c : Nat) (w : World) (h0 : w.cell? ⟨b, off, none⟩ = some (.int .u8 x)) (h1 : w.cell? ⟨b, off + 1, none⟩ = some (.int .u8 y)) :
    Calls Tryz.prog 72 #[.slice (some ⟨b, off, none⟩) 2 c] w fun e w' => e = .returned (.int .i64 ((x + 256 * y : Nat) : Int)) ∧ w = w' := by
  have e0 : bits .or .i64 0 (x : Int) = (x : Int) := by simpa using i64_or_nat 0 x (by omega) (by omega)
  have e1 : bits .or .i64 (x : Int) ((y : Int) * 256) = ((x + 256 * y : Nat) : Int) := by
    have q := i64_or_nat x (y * 256) (by omega) (by omega)
    have u := or_up x y 8 (by omega)
    rw [show (2 : Nat) ^ 8 = 256 from rfl] at u
    rw [u] at q
    rw [show ((y * 256 : Nat) : Int) = (y : Int) * 256 by omega] at q
    rw [q]; omega
  go_enter Tryz.func72, Tryz.ntmps72
  go_wp2_with fail
  go_loopw [3, 4, 5, 8] (fun v _ _ i wr => ∃ k : Nat, k ≤ 2 ∧ i = .int .i64 k ∧ v = .int .i64 (if k = 0 then 0 else if k = 1 then (x : Int) else ((x + 256 * y : Nat) : Int)) ∧ wr = w) (fun _ _ _ i _ => 2 - (intOf i).toNat)
  case atStart => exact ⟨0, by omega, rfl, rfl, rfl⟩
  case round =>
    obtain ⟨k, hk, rfl, rfl, rfl⟩ := hrel
    rcases (by omega : k = 0 ∨ k = 1 ∨ k = 2) with rfl | rfl | rfl
    · go_wp2
      go_roundw
      case rel => exact ⟨1, by omega, rfl, by simp, trivial⟩
      case measure => simp [intOf]
    · go_wp2
      go_roundw
      case rel => exact ⟨2, by omega, rfl, by simp, trivial⟩
      case measure => simp [intOf]
    · go_wp2
      go_ret
      exact ⟨rfl, rfl⟩

/-- the number of two bytes at off -/
def le2 (zs : List Int) (off : Nat) : Int := zs.getD off 0 + 256 * zs.getD (off + 1) 0
theorem getNumber_row {W : World} {g : Nat} {t : TypeId} {zs : List Int} (hz : ∀ i, 0 ≤ zs.getD i 0 ∧ zs.getD i 0 < 256) (h : W.heap[g]? = some (.cells (u8s zs) t (0, 0))) (off c : Nat) (ho : off + 1 < zs.length) :
    Calls Tryz.prog 72 #[.slice (some ⟨g, off, none⟩) 2 c] W.drew fun e w' => e = .returned (.int .i64 (le2 zs off)) ∧ W.drew = w' := by
  have e : ∀ i, i < zs.length → W.cell? ⟨g, i, none⟩ = some (.int .u8 (zs.getD i 0)) := fun i hi => by
    rw [cell_of_row W g i _ t _ h]
    simp [u8s, hi]
  obtain ⟨x, hx⟩ := Int.eq_ofNat_of_zero_le (hz off).1
  obtain ⟨y, hy⟩ := Int.eq_ofNat_of_zero_le (hz (off + 1)).1
  have h0 := e off (by omega)
  have h1 := e (off + 1) ho
  have b0 := (hz off).2
  have b1 := (hz (off + 1)).2
  rw [hx] at h0 b0
  rw [hy] at h1 b1
  have q := getNumber_two x y (by omega) (by omega) g off c W.drew h0 h1
  have eq : le2 zs off = ((x + 256 * y : Nat) : Int) := by unfold le2; rw [hx, hy]; omega
  rw [eq]
  exact q
end Go.Proofs.YtfbjagjgofdheaaGreatDoor

namespace Go.Proofs.YtfbjagjgofdheaaGreatDoor
open Go.RowKit
set_option linter.unusedVariables false

/-- the runs of a table block -/
def rdT (zs : List Int) (n : Nat) : List R3 := (List.range n).map fun i => (le2 zs (4 + 6 * i), le2 zs (6 + 6 * i), le2 zs (8 + 6 * i))
theorem rdT_length (zs : List Int) (n : Nat) : (rdT zs n).length = n := by simp [rdT]
theorem rdT_get (zs : List Int) (n k : Nat) (h : k < n) : (rdT zs n).getD k (0, 0, 0) = (le2 zs (4 + 6 * k), le2 zs (6 + 6 * k), le2 zs (8 + 6 * k)) := by
  simp [rdT, h]

/-- readTable at work -/
structure Rg2 (w W : World) (n : Nat) (zs : List Int) (rs : List R3) : Prop where
  hd : W.heap[w.heap.size]? = some (.cells #[.int .i64 3, .int .i64 n] 73 (0, 0))
  raw : W.heap[w.heap.size + 1]? = some (.cells (u8s zs) 100 (0, 0))
  own : ROwn (w.heap.size + 1 + 1) (w.heap.size + 1 + 1 + 1) W (.slice (some ⟨w.heap.size + 1 + 1, 0, none⟩) n n) rs
  below : Below w.heap.size w W
  size : w.heap.size + 1 + 1 + 1 ≤ W.heap.size

set_option maxRecDepth 100000 in
set_option maxHeartbeats 1000000 in
theorem readTable_any (n : Nat) (hn : n ≤ 20) (zs : List Int) (hl : zs.length = 128) (hz : Byt zs) (w : World) :
    Calls Tryz.prog 65 #[.agg #[.int .i64 3, .int .i64 n], .agg (u8s zs)] w fun e w' => (∃ a c, e = .returned (.iface 82 (.agg #[.int .i64 3, .int .i64 n, .int .i64 (le2 zs 2), .slice a n c])) ∧ RRead w' (.slice a (rdT zs n).length c) (rdT zs n) ∧ ∀ p, a = some p → w.heap.size ≤ p.block) ∧ Below w.heap.size w w' := by
  obtain ⟨cur, hmk, hO⟩ := madeRuns n (by omega) ((w.alloc (.cells #[.int .i64 3, .int .i64 n] 73)).alloc (.cells (u8s zs) 100))
  have hs2 : ((w.alloc (.cells #[.int .i64 3, .int .i64 n] 73)).alloc (.cells (u8s zs) 100)).heap.size = w.heap.size + 1 + 1 := by simp
  have hrz := rnP_zero (rdT zs n)
  rw [rdT_length] at hrz
  rw [← hrz, hs2] at hO
  rw [hs2] at hmk
  have h1 := heap_alloc_new w (.cells #[.int .i64 3, .int .i64 n] 73)
  have h2 := heap_alloc_new (w.alloc (.cells #[.int .i64 3, .int .i64 n] 73)) (.cells (u8s zs) 100)
  have hst : Rg2 w (((w.alloc (.cells #[.int .i64 3, .int .i64 n] 73)).alloc (.cells (u8s zs) 100)).alloc (.cells cur 78)) n zs (rnP (rdT zs n) 0) :=
    ⟨((belowA _ _).block _ (by simp; omega)).trans (((belowA _ _).block _ (by simp)).trans h1), ((belowA _ _).block _ (by simp)).trans (by simpa using h2), hO, ((belowA _ _).trans ((belowA _ _).mono (by simp))).trans ((belowA _ _).mono (by simp; omega)), by simp⟩
  clear hO h1 h2 hs2 hrz
  go_enter Tryz.func65, Tryz.ntmps65
  go_wp2_with fail
  generalize (((w.alloc (.cells #[.int .i64 3, .int .i64 n] 73)).alloc (.cells (u8s zs) 100)).alloc (.cells cur 78)) = W0 at *
  clear hmk
  go_loopw [6, 7, 13] (fun _ _ i wr => ∃ k : Nat, k ≤ n ∧ i = .int .i64 k ∧ Rg2 w wr n zs (rnP (rdT zs n) k)) (fun _ _ i _ => n - (intOf i).toNat)
  case atStart => exact ⟨0, by omega, rfl, hst⟩
  case round =>
    obtain ⟨k, hk, rfl, hK⟩ := hrel
    clear hst
    have NN : Hid (∀ off c, off + 1 < 128 → Calls Tryz.prog 72 #[.slice (some ⟨w.heap.size + 1, off, none⟩) 2 c] wr.drew fun e w' => e = .returned (.int .i64 (le2 zs off)) ∧ wr.drew = w') := fun off c h => getNumber_row hz hK.raw off c (by omega)
    by_cases hlt : k < n
    · have hki : (k : Int) < (n : Int) := by omega
      obtain ⟨y, hy⟩ : ∃ y : Nat, y = 4 + 6 * k := ⟨_, rfl⟩
      have m1 : IntKind.i64.wrap (6 * (k : Int)) = 6 * (k : Int) := IntWalk.i64_in _ ⟨by omega, by omega⟩
      have m2 : IntKind.i64.wrap (4 + 6 * (k : Int)) = (y : Int) := (IntWalk.i64_in _ ⟨by omega, by omega⟩).trans (by omega)
      have y0 : (0 : Int) ≤ (y : Int) := by omega
      have y1 : (y : Int) ≤ 128 := by omega
      have y2 : ¬ (128 : Nat) = y := by omega
      have y3 : (6 : Int) ≤ 128 - (y : Int) := by omega
      have HY : Hid (y = 4 + 6 * k) := hy
      clear hy
      go_wp2_with fail
      obtain ⟨cp, hcp⟩ : ∃ cp : Nat, 128 - y = cp := ⟨_, rfl⟩
      have HX : Hid (cp = 128 - y) := hcp.symm
      have z1 : (2 : Int) ≤ (cp : Int) := by omega
      have z2 : (4 : Int) ≤ (cp : Int) := by omega
      have z3 : (6 : Int) ≤ (cp : Int) := by omega
      have z4 : ¬ cp = 2 := by omega
      have z5 : ¬ cp = 4 := by omega
      have z6 : ¬ cp = 0 := by omega
      rw [hcp]
      clear hcp
      have HNN : Hid (∀ off c, off + 1 < 128 → Calls Tryz.prog 72 #[.slice (some ⟨w.heap.size + 1, off, none⟩) 2 c] wr.drew fun e w' => e = .returned (.int .i64 (le2 zs off)) ∧ wr.drew = w') := NN.out
      have HT : Hid ((rnP (rdT zs n) k).set k (le2 zs y, le2 zs (y + 2), le2 zs (y + 4)) = rnP (rdT zs n) (k + 1)) := by
        have := rnP_step (rdT zs n) k (by rw [rdT_length]; exact hlt)
        rw [rdT_get zs n k hlt] at this
        have e1 : 6 + 6 * k = y + 2 := by rw [HY.out]; omega
        have e2 : 8 + 6 * k = y + 4 := by rw [HY.out]; omega
        rw [e1, e2, ← HY.out] at this
        exact this
      have hln : (rnP (rdT zs n) k).length = n := by rw [rnP_length _ _ (by rw [rdT_length]; omega), rdT_length]
      have ho := hK.own
      obtain ⟨s1, s2⟩ := ho.stored k (by omega) (le2 zs y) (le2 zs (y + 2)) (le2 zs (y + 4))
      rw [HT.out, Nat.zero_add] at s1
      rw [Nat.zero_add] at s2
      obtain ⟨_, _, he, hs⟩ := ho
      simp only [Value.slice.injEq] at he
      obtain ⟨rfl, hbad, rfl⟩ := he
      clear hbad
      obtain ⟨_, _, he, _, _, _, hfr, hcc⟩ := hs (by omega)
      simp only [Option.some.injEq, Addr.mk.injEq, and_true] at he
      obtain ⟨rfl, rfl⟩ := he
      obtain ⟨c0, c1, c2⟩ := hcc k (by omega)
      rw [Nat.zero_add] at c0 c1 c2
      have f0 := hfr (k * 3)
      have f1 := hfr (k * 3 + 1)
      have f2 := hfr (k * 3 + 2)
      have HN1 : Hid (Rg2 w ((((wr.setCell ⟨w.heap.size + 1 + 1, k * 3, none⟩ (.int .i64 (le2 zs y))).setCell ⟨w.heap.size + 1 + 1, k * 3 + 1, none⟩ (.int .i64 (le2 zs (y + 2)))).setCell ⟨w.heap.size + 1 + 1, k * 3 + 2, none⟩ (.int .i64 (le2 zs (y + 4)))).drew) n zs (rnP (rdT zs n) (k + 1))) := by
        have q1 := hK.size
        exact ⟨(s2.block _ (by omega) (by omega)).trans hK.hd, (s2.block _ (by omega) (by omega)).trans hK.raw, s1.below (Below.refl _ _).drew, (hK.below.trans (s2.below (by omega) (by omega))).drew, Nat.le_trans q1 s2.size⟩
      generalize (rnP (rdT zs n) k).getD k (0, 0, 0) = cpp at *
      clear hs hcc hfr hln s1 s2 hK NN
      go_wp2_with fail
      go_region_held3 (fun _ => True) (exact trivial) ((go_at_call 72; refine (HNN.out _ _ (by have := HY.out; omega)).mono ?_; rintro e w1 ⟨rfl, rfl⟩))
      clear HNN c0 c1 c2 f0 f1 f2
      go_wp2
      go_roundw
      case rel => exact ⟨k + 1, by omega, by go_num, HN1.out⟩
      case measure => simp [intOf]; omega
    · have hke : k = n := by omega
      have h0 : wr.cell? ⟨w.heap.size, 0, none⟩ = some (.int .i64 3) := (cell_of_row wr _ _ _ _ _ hK.hd).trans rfl
      have h1 : wr.cell? ⟨w.heap.size, 1, none⟩ = some (.int .i64 n) := (cell_of_row wr _ _ _ _ _ hK.hd).trans rfl
      have hR : RRead wr (.slice (some ⟨w.heap.size + 1 + 1, 0, none⟩) (rdT zs n).length n) (rdT zs n) := by
        have q := hK.own.read
        have e := rnP_end (rdT zs n)
        rw [rdT_length] at e
        rw [hke, e] at q
        rw [rdT_length]
        exact q
      have HR : Hid (RRead wr (.slice (some ⟨w.heap.size + 1 + 1, 0, none⟩) (rdT zs n).length n) (rdT zs n)) := hR
      have hb := hK.below
      have hki : ¬ (k : Int) < (n : Int) := by omega
      clear hK hR hke
      go_wp2_with fail
      go_region_held3 (fun w' => w'.cell? ⟨w.heap.size, 0, none⟩ = some (.int .i64 3) ∧ w'.cell? ⟨w.heap.size, 1, none⟩ = some (.int .i64 n)) (first | go_keep | exact ⟨h0, h1⟩) ((go_at_call 72; refine (NN.out _ _ (by omega)).mono ?_; rintro e w1 ⟨rfl, rfl⟩))
      clear NN h0 h1
      go_wp2
      go_ret
      exact ⟨⟨_, _, rfl, RRead.below (w := wr) HR.out (Below.refl _ _).drew, fun p hp => by cases hp; show w.heap.size ≤ w.heap.size + 1 + 1; omega⟩, hb.drew⟩
end Go.Proofs.YtfbjagjgofdheaaGreatDoor

import Derived.Test.YtfbjagjgofdheaaGreatDoorInv
import Derived.Lib.SliceRun
import Derived.Test.YtfbjagjgofdheaaGreatDoorCrc
import Derived.Test.YtfbjagjgofdheaaGreatDoorCt3
namespace Go.Proofs.YtfbjagjgofdheaaGreatDoor
open Go.RowKit
set_option linter.unusedVariables false

theorem putL_bytG {zs : List Int} (h : Byt zs) (off : Nat) (v : Int) : ∀ n, Byt (putL zs off v n)
  | 0 => h
  | n + 1 => fun i => by
    have ih := putL_bytG h off v n i
    rw [putL, List.getD_eq_getElem?_getD, List.getElem?_set]
    by_cases e : off + n = i
    · by_cases hl : off + n < (putL zs off v n).length
      · rw [if_pos e, if_pos hl]; exact leB_small v n
      · rw [if_pos e, if_neg hl]; simp
    · rw [if_neg e, ← List.getD_eq_getElem?_getD]; exact ih


set_option maxRecDepth 100000 in
set_option maxHeartbeats 1000000 in
/-- a block with a wrong sum is refused for it -/
theorem decodeForm_sum (zs : List Int) (hl : zs.length = 128) (hz : Byt zs) (hne : ¬ putL zs 124 (crcOf (zs.take 124)) 4 = zs) (adrS : Addr) (b off c : Nat) (w : World) (hs : w.cell? ⟨2, 0, none⟩ = some (.iface 146 (.pointer (some adrS)))) (hv : Bts w (.slice (some ⟨b, off, none⟩) 128 c) zs) :
    Calls Tryz.prog 31 #[.slice (some ⟨b, off, none⟩) 128 c] w fun e w' => (∃ pb, e = .returned (.tuple #[.nilIface, .iface 92 (.pointer (some ⟨pb, 0, none⟩))]) ∧ w'.cell? ⟨pb, 0 + 1, none⟩ = some (.iface 146 (.pointer (some adrS)))) ∧ Below w.heap.size w w' := by
  have harr := fun a c w => arrayAt_any a 128 c w (Nat.le_refl _)
  have hR0 := Rng8.of_bts hv rfl hl
  have hpl : (putL zs 124 (crcOf (zs.take 124)) 4).length = 128 := by rw [putL_length]; exact hl
  have hn1 : ∀ w, (Op.equalIn 10000 100 (.agg (u8s (putL zs 124 (crcOf (zs.take 124)) 4))) (.agg (u8s zs))).run Tryz.prog w = .ok false w := fun w => by
    rw [arr_eq _ _ hpl hl (putL_bytG hz _ _ _) hz w, decide_eq_false hne]
  have HS : Hid _ := fun w => sealed_any zs hl hz w
  generalize putL zs 124 (crcOf (zs.take 124)) 4 = pz at *
  clear hv hne hpl
  go_enter Tryz.func31, Tryz.ntmps31
  go_wp2_with (first | ((with_reducible refine wpList_load128 hR0 ?_ ?_); exact ⟨rfl, _, rfl, rfl⟩) | ((with_reducible refine wpList_alloc128 ?_ ?_); exact ⟨rfl, rfl⟩) | ((with_reducible refine wpList_store_new hl ?_ ?_); exact ⟨rfl, _, _, _, rfl, rfl, rfl, rfl⟩))
  have hb0 := belowA w (.cells (u8s zs) 100)
  have hR1 := rng_new w zs hl 100 w.heap.size rfl
  have hs0 : w.heap.size < (w.alloc (.cells (u8s zs) 100)).heap.size := by simp
  generalize w.alloc (.cells (u8s zs) 100) = W1 at *
  have HB0 : Hid (Below w.heap.size w W1) := hb0
  clear hR0 hb0
  have hk2 : ∀ X : World, Below W1.heap.size W1 X → Rng8 X w.heap.size 0 zs := fun X h => hR1.block (h.block _ hs0)
  go_simp
  refine wp_region_E (fun w' => Rng8 w' w.heap.size 0 zs) 99 (by kernel_rfl) ?_
  have hq0 : (fun w' => Rng8 w' w.heap.size 0 zs) W1.drew := hR1.block rfl
  refine wpAnyE_takeN (i := 0) 21 (.agg (u8s zs)) (by show 4 ≤ 99; omega) rfl (by kernel_rfl) (by kernel_rfl) (by kernel_rfl) (fun _ _ _ h => h) rfl rfl hq0 (fun w' hw => exec_load128 hw ⟨_, rfl, rfl⟩) ?_
  simp only [Act.put, List.setIfInBounds_toArray, List.set_cons_zero, List.set_cons_succ]
  refine wpAnyE_takeN (i := 2) 23 (.agg (u8s zs)) (by show 4 ≤ 99; omega) rfl (by kernel_rfl) (by kernel_rfl) (by kernel_rfl) (fun _ _ _ h => h) rfl rfl hq0 (fun w' hw => exec_load128 hw ⟨_, rfl, rfl⟩) ?_
  simp only [Act.put, List.setIfInBounds_toArray, List.set_cons_zero, List.set_cons_succ]
  refine wpAnyE_one (i := 1) (by kernel_rfl) rfl rfl (fun K2 hK2 => ?_)
  go_simp
  refine (HS.out W1.drew).mono ?_
  rintro e w2 ⟨rfl, hb2⟩
  have hR2 := hk2 w2 ((Below.refl _ _).drew.trans hb2)
  refine hK2 _ _ (fun _ => hR2) ?_
  clear hK2 K2
  refine wpAnyE_one (i := 3) (by kernel_rfl) rfl rfl (fun K2 hK2 => ?_)
  go_simp
  refine hK2 _ _ (fun _ => hR2) ?_
  clear hK2 K2
  refine wpAnyE_done (by kernel_rfl) ?_ _
  have hB2 : Below w.heap.size w w2 := HB0.out.trans (((Below.refl _ _).drew.trans hb2).mono HB0.out.size)
  have c0 := (hB2.cell (p := ⟨2, 0, none⟩) (World.block_lt_of_cell? _ _ hs)).trans hs
  have HE : Hid (((w2.alloc (.cells #[.int .i64 124, .iface 146 (.pointer (some adrS))] 94)).drew).cell? ⟨w2.heap.size, 0 + 1, none⟩ = some (.iface 146 (.pointer (some adrS)))) := World.cell?_alloc_at _ _ _ _ rfl
  have hbE : Below w.heap.size w ((w2.alloc (.cells #[.int .i64 124, .iface 146 (.pointer (some adrS))] 94)).drew) := hB2.trans (((belowA w2 _).drew).mono hB2.size)
  clear hk2 hq0 hR1 hb2 hs0 HS harr hs hn1 hR2
  go_wp2_with fail
  go_region_held3 (fun w' => w'.cell? ⟨2, 0, none⟩ = some (.iface 146 (.pointer (some adrS)))) (first | go_keep | assumption) (fail)
  clear c0
  go_wp2
  exact bodyPost_ret (v := .tuple #[.nilIface, .iface 92 (.pointer (some ⟨w2.heap.size, 0, none⟩))]) (by simp [results, Tryz.results31, go_sem]) rfl ⟨⟨_, rfl, HE.out⟩, hbE⟩
end Go.Proofs.YtfbjagjgofdheaaGreatDoor

namespace Go.Proofs.YtfbjagjgofdheaaGreatDoor
open Go.RowKit
set_option linter.unusedVariables false

theorem zero8 (w : World) : (zeroValue 5).run Tryz.prog w = .ok (.int .u8 0) w := by kernel_rfl

set_option maxRecDepth 100000 in
set_option maxHeartbeats 1000000 in
/-- the sum taken off -/
theorem unsealed_any (ds : List Int) (hl : ds.length = 128) (hb : Byt ds) (w : World) :
    Calls Tryz.prog 48 #[.agg (u8s ds)] w fun e w' => e = .returned (.agg (u8s (putL ds 124 0 4))) ∧ Below w.heap.size w w' := by
  obtain ⟨W0, HW⟩ : ∃ W0, Hid (W0 = (w.alloc (.cells (u8s ds) 100)).alloc (.cells Tryz.zeroCells100 100)) := ⟨_, rfl⟩
  have hA : Arr W0 w.heap.size ds := by rw [HW.out]; exact (Arr.new w ds hl hb 100).below (belowA _ _)
  have hT : W0.there (w.heap.size + 1) 0 128 := by rw [HW.out, zeroRaw]; exact there_new _ _ (by simp)
  have hB : Below w.heap.size w W0 := by rw [HW.out]; exact ((Below.refl _ _).alloc (Nat.le_refl _) _).alloc (by simp) _
  have HS : Hid (W0.heap.size = w.heap.size + 1 + 1) := by rw [Hid, HW.out]; simp
  obtain ⟨a1, u1⟩ := hA.stored (j := 124) (by omega) 0 (by omega)
  obtain ⟨a2, u2⟩ := a1.stored (j := 125) (by omega) 0 (by omega)
  obtain ⟨a3, u3⟩ := a2.stored (j := 126) (by omega) 0 (by omega)
  obtain ⟨a4, u4⟩ := a3.stored (j := 127) (by omega) 0 (by omega)
  have hu := ((u1.trans u2).trans u3).trans u4
  obtain ⟨W1, HW1⟩ : ∃ W1, Hid (W1 = (((W0.setCell ⟨w.heap.size, 124, none⟩ (.int .u8 0)).setCell ⟨w.heap.size, 125, none⟩ (.int .u8 0)).setCell ⟨w.heap.size, 126, none⟩ (.int .u8 0)).setCell ⟨w.heap.size, 127, none⟩ (.int .u8 0)) := ⟨_, rfl⟩
  have hclr : ∀ ty, (Builtin.clear_ #[22] ty #[.slice (some ⟨w.heap.size, 124, none⟩) 4 4]).run Tryz.prog W0 = .ok (.tuple #[]) W1 := fun ty => by
    rw [Go.Lib.run_clear_slice W0 22 5 ty (.int .u8 0) Tryz.underlying22 zero8 rfl rfl w.heap.size 124 4 4 (by omega) (fun j hj => by rw [(hA.at (j := 124 + j) (by omega)).1]; rfl) (fun j hj => (hA.at (j := 124 + j) (by omega)).2), HW1.out]
    rfl
  rw [← HW1.out] at a4 hu
  have hp : (((ds.set 124 0).set 125 0).set 126 0).set 127 0 = putL ds 124 0 4 := by simp [putL, leB]
  rw [hp] at a4
  generalize putL ds 124 0 4 = pl at *
  have hT3 : W1.there (w.heap.size + 1) 0 128 := there_block (w := W0) hT (hu.block _ (show w.heap.size + 1 < W0.heap.size by rw [HS.out]; omega) (.inr (Nat.le_refl _)))
  have hR3 := a4.rng
  have hl3 := a4.1
  have hB3 : Below w.heap.size w W1 := hB.trans (hu.below (Nat.le_refl _) (show w.heap.size ≤ W0.heap.size by rw [HS.out]; omega))
  have HBL : Hid (Below w.heap.size w (W1.setCells (w.heap.size + 1) 0 (pl.map (Value.int .u8)))) := Below.setCells hB3 (by omega) _ _
  have HRS : Hid _ := Rng8.stored hT3 hl3
  clear hA a1 a2 a3 a4 u1 u2 u3 u4 hu hT hB HW1 hB3 hp
  go_enter Tryz.func48, Tryz.ntmps48
  go_wp2_with fail
  rw [← HW.out]
  go_wp2_with fail
  rw [hclr]
  go_wp2_with (first | ((with_reducible refine wpList_load128 hR3 ?_ ?_); exact ⟨rfl, _, rfl, rfl⟩) | ((with_reducible refine wpList_store128 hT3 hl3 ?_ ?_); exact ⟨rfl, _, _, rfl, rfl, rfl⟩))
  exact bodyPost_ret (result_rng Tryz.results48 rfl HRS.out) rfl ⟨rfl, HBL.out⟩
end Go.Proofs.YtfbjagjgofdheaaGreatDoor

namespace Go.Proofs.YtfbjagjgofdheaaGreatDoor
open Go.RowKit
set_option linter.unusedVariables false

theorem xor_back (a b c : Nat) (h : a ^^^ c = b ^^^ c) : a = b := by
  have := congrArg (· ^^^ c) h
  simpa [Nat.xor_assoc] using this
theorem xor_top (a : Nat) (h : a < 2 ^ 31) : 2 ^ 31 ≤ a ^^^ 3988292384 := by
  apply Nat.ge_two_pow_of_testBit
  rw [Nat.testBit_xor, Nat.testBit_lt_two_pow h]
  decide
theorem crcBit_odd (x : Int) (h1 : 0 ≤ x) (h2 : x < 4294967296) : crcBit x = if x % 2 = 1 then (((x / 2).toNat ^^^ 3988292384 : Nat) : Int) else x / 2 := by
  have ha : bits .and .u32 x 1 = x % 2 := by
    rw [u32_and x 1 h1 h2 (by omega) (by omega), show (1 : Int).toNat = 1 from rfl, nat_mask1]
    omega
  unfold crcBit
  rw [ha]
  by_cases h : x % 2 = 1
  · rw [if_pos (by simp [h]), if_pos h, u32_xor (x / 2) 3988292384 (by omega) (by omega) (by omega) (by omega)]; rfl
  · rw [if_neg (by simp [h]), if_neg h]
theorem crcBit_inj (x y : Int) (h1 : 0 ≤ x) (h2 : x < 4294967296) (h3 : 0 ≤ y) (h4 : y < 4294967296) (h : crcBit x = crcBit y) : x = y := by
  rw [crcBit_odd x h1 h2, crcBit_odd y h3 h4] at h
  have tx := xor_top (x / 2).toNat (by omega)
  have ty := xor_top (y / 2).toNat (by omega)
  by_cases hx : x % 2 = 1
  · by_cases hy : y % 2 = 1
    · rw [if_pos hx, if_pos hy] at h
      have := xor_back (x / 2).toNat (y / 2).toNat 3988292384 (by omega)
      omega
    · rw [if_pos hx, if_neg hy] at h
      omega
  · by_cases hy : y % 2 = 1
    · rw [if_neg hx, if_pos hy] at h
      omega
    · rw [if_neg hx, if_neg hy] at h
      omega
theorem crcBits_inj : ∀ (j : Nat) (x y : Int), 0 ≤ x → x < 4294967296 → 0 ≤ y → y < 4294967296 → crcBits j x = crcBits j y → x = y
  | 0, _, _, _, _, _, _, h => h
  | j + 1, x, y, h1, h2, h3, h4, h => by
    have a := crcBits_in j x h1 h2
    have b := crcBits_in j y h3 h4
    exact crcBits_inj j x y h1 h2 h3 h4 (crcBit_inj _ _ a.1 a.2 b.1 b.2 h)
/-- another register, the same byte: another register -/
theorem crcByte_reg (x y z : Int) (h1 : 0 ≤ x) (h2 : x < 4294967296) (h3 : 0 ≤ y) (h4 : y < 4294967296) (hz : 0 ≤ z ∧ z < 256) (h : crcByte x z = crcByte y z) : x = y := by
  have q := xor32 x (z % 4294967296) h1 h2 (by omega) (by omega)
  have r := xor32 y (z % 4294967296) h3 h4 (by omega) (by omega)
  have e := crcBits_inj 8 _ _ q.1 q.2 r.1 r.2 h
  rw [u32_xor x _ h1 h2 (by omega) (by omega), u32_xor y _ h3 h4 (by omega) (by omega)] at e
  have := xor_back x.toNat y.toNat (z % 4294967296).toNat (by omega)
  omega
/-- the same register, another byte: another register -/
theorem crcByte_byte (x z z' : Int) (h1 : 0 ≤ x) (h2 : x < 4294967296) (hz : 0 ≤ z ∧ z < 256) (hz' : 0 ≤ z' ∧ z' < 256) (h : crcByte x z = crcByte x z') : z = z' := by
  have q := xor32 x (z % 4294967296) h1 h2 (by omega) (by omega)
  have r := xor32 x (z' % 4294967296) h1 h2 (by omega) (by omega)
  have e := crcBits_inj 8 _ _ q.1 q.2 r.1 r.2 h
  rw [u32_xor x _ h1 h2 (by omega) (by omega), u32_xor x _ h1 h2 (by omega) (by omega), Nat.xor_comm, Nat.xor_comm x.toNat] at e
  have := xor_back (z % 4294967296).toNat (z' % 4294967296).toNat x.toNat (by omega)
  omega
theorem fold_in : ∀ (zs : List Int) (x : Int), 0 ≤ x → x < 4294967296 → (∀ z ∈ zs, 0 ≤ z ∧ z < 256) → 0 ≤ zs.foldl crcByte x ∧ zs.foldl crcByte x < 4294967296
  | [], _, h1, h2, _ => ⟨h1, h2⟩
  | z :: zs, x, h1, h2, h => by
    have a := crcByte_in x z h1 h2
    exact fold_in zs _ a.1 a.2 fun u hu => h u (by simp [hu])
theorem fold_reg : ∀ (zs : List Int) (x y : Int), 0 ≤ x → x < 4294967296 → 0 ≤ y → y < 4294967296 → (∀ z ∈ zs, 0 ≤ z ∧ z < 256) → zs.foldl crcByte x = zs.foldl crcByte y → x = y
  | [], _, _, _, _, _, _, _, h => h
  | z :: zs, x, y, h1, h2, h3, h4, hz, h => by
    have a := crcByte_in x z h1 h2
    have b := crcByte_in y z h3 h4
    exact crcByte_reg x y z h1 h2 h3 h4 (hz z (by simp)) (fold_reg zs _ _ a.1 a.2 b.1 b.2 (fun u hu => hz u (by simp [hu])) h)
/-- one other byte: another sum -/
theorem crc_one (xs ys : List Int) (z z' : Int) (hx : ∀ u ∈ xs, 0 ≤ u ∧ u < 256) (hy : ∀ u ∈ ys, 0 ≤ u ∧ u < 256) (hz : 0 ≤ z ∧ z < 256) (hz' : 0 ≤ z' ∧ z' < 256) (h : crcOf (xs ++ z :: ys) = crcOf (xs ++ z' :: ys)) : z = z' := by
  unfold crcOf crcReg at h
  have a := fold_in xs 4294967295 (by omega) (by omega) hx
  rw [List.foldl_append, List.foldl_append, List.foldl_cons, List.foldl_cons] at h
  generalize xs.foldl crcByte 4294967295 = r at *
  have p := crcByte_in r z a.1 a.2
  have q := crcByte_in r z' a.1 a.2
  have p2 := fold_in ys _ p.1 p.2 hy
  have q2 := fold_in ys _ q.1 q.2 hy
  rw [u32_xor _ _ p2.1 p2.2 (by omega) (by omega), u32_xor _ _ q2.1 q2.2 (by omega) (by omega)] at h
  have e := xor_back _ _ _ (Int.ofNat_inj.1 h)
  have e2 : ys.foldl crcByte (crcByte r z) = ys.foldl crcByte (crcByte r z') := by omega
  exact crcByte_byte r z z' a.1 a.2 hz hz' (fold_reg ys _ _ p.1 p.2 q.1 q.2 hy e2)
end Go.Proofs.YtfbjagjgofdheaaGreatDoor

namespace Go.Proofs.YtfbjagjgofdheaaGreatDoor
open Go.RowKit
set_option linter.unusedVariables false

/-- a block whose sum is right -/
def Sld (zs : List Int) : Prop := putL zs 124 (crcOf (zs.take 124)) 4 = zs

theorem sld_bytes {zs : List Int} (hl : zs.length = 128) (h : Sld zs) (i : Nat) (hi : i < 4) : zs.getD (124 + i) 0 = leB (crcOf (zs.take 124)) i := by
  have key : ∀ v : Int, (putL zs 124 v 4).getD (124 + i) 0 = leB v i := fun v => by
    rcases (show i = 0 ∨ i = 1 ∨ i = 2 ∨ i = 3 by omega) with rfl | rfl | rfl | rfl <;> simp [putL, hl]
  have := key (crcOf (zs.take 124))
  unfold Sld at h
  rwa [h] at this

theorem leB_inj {c c' : Int} (h1 : 0 ≤ c ∧ c < 4294967296) (h2 : 0 ≤ c' ∧ c' < 4294967296) (h : ∀ i, i < 4 → leB c i = leB c' i) : c = c' := by
  have a0 := h 0 (by omega)
  have a1 := h 1 (by omega)
  have a2 := h 2 (by omega)
  have a3 := h 3 (by omega)
  simp [leB] at a0 a1 a2 a3
  omega

theorem turned {zs zs' : List Int} (hl : zs.length = 128) (hl' : zs'.length = 128) (hz : ∀ i, 0 ≤ zs.getD i 0 ∧ zs.getD i 0 < 256) (hz' : ∀ i, 0 ≤ zs'.getD i 0 ∧ zs'.getD i 0 < 256) (p : Nat) (hp : p < 128) (hd : ∀ i, i ≠ p → zs'.getD i 0 = zs.getD i 0) (hne : zs'.getD p 0 ≠ zs.getD p 0) (hs : Sld zs) : ¬ Sld zs' := by
  intro hs'
  have b := sld_bytes hl hs
  have b' := sld_bytes hl' hs'
  have c1 := crcOf_in (zs.take 124)
  have c2 := crcOf_in (zs'.take 124)
  by_cases h : p < 124
  · have hc : crcOf (zs.take 124) = crcOf (zs'.take 124) := leB_inj c1 c2 fun i hi => by rw [← b i hi, ← b' i hi, hd _ (by omega)]
    have split : ∀ a : List Int, a.length = 128 → a.take 124 = a.take p ++ a.getD p 0 :: (a.take 124).drop (p + 1) := fun a ha => by
      apply List.ext_getElem?
      intro i
      rw [List.getElem?_append]
      by_cases h1 : i < p
      · rw [if_pos (by simp; omega), List.getElem?_take, List.getElem?_take, if_pos (by omega), if_pos h1]
      · rw [if_neg (by simp; omega), List.length_take, show min p a.length = p by omega]
        by_cases h2 : i = p
        · subst h2
          rw [Nat.sub_self, List.getElem?_take, if_pos h]
          simp [show i < a.length by omega]
        · rw [show i - p = (i - p - 1) + 1 by omega, List.getElem?_cons_succ, List.getElem?_drop, show p + 1 + (i - p - 1) = i by omega]
    have e1 : zs'.take p = zs.take p := by
      apply List.ext_getElem?
      intro i
      rw [List.getElem?_take, List.getElem?_take]
      by_cases h1 : i < p
      · rw [if_pos h1, if_pos h1]
        have := hd i (by omega)
        simpa [show i < zs.length by omega, show i < zs'.length by omega] using this
      · rw [if_neg h1, if_neg h1]
    have e2 : (zs'.take 124).drop (p + 1) = (zs.take 124).drop (p + 1) := by
      apply List.ext_getElem?
      intro i
      rw [List.getElem?_drop, List.getElem?_drop, List.getElem?_take, List.getElem?_take]
      by_cases h1 : p + 1 + i < 124
      · rw [if_pos h1, if_pos h1]
        have := hd (p + 1 + i) (by omega)
        simpa [show p + 1 + i < zs.length by omega, show p + 1 + i < zs'.length by omega] using this
      · rw [if_neg h1, if_neg h1]
    have mem : ∀ (a : List Int), (∀ i, 0 ≤ a.getD i 0 ∧ a.getD i 0 < 256) → ∀ u ∈ a, 0 ≤ u ∧ u < 256 := fun a ha u hu => by
      obtain ⟨i, hi, rfl⟩ := List.getElem_of_mem hu
      have := ha i
      simpa [hi] using this
    rw [split zs hl, split zs' hl', e1, e2] at hc
    exact hne (crc_one _ _ _ _ (fun u hu => mem zs hz u (List.mem_of_mem_take hu)) (fun u hu => mem zs hz u (List.mem_of_mem_take (List.mem_of_mem_drop hu))) (hz p) (hz' p) hc).symm
  · have e : zs'.take 124 = zs.take 124 := by
      apply List.ext_getElem?
      intro i
      rw [List.getElem?_take, List.getElem?_take]
      by_cases h1 : i < 124
      · rw [if_pos h1, if_pos h1]
        have := hd i (by omega)
        simpa [show i < zs.length by omega, show i < zs'.length by omega] using this
      · rw [if_neg h1, if_neg h1]
    have q := b (p - 124) (by omega)
    have q' := b' (p - 124) (by omega)
    rw [e] at q'
    rw [show 124 + (p - 124) = p by omega] at q q'
    exact hne (q'.trans q.symm)
end Go.Proofs.YtfbjagjgofdheaaGreatDoor

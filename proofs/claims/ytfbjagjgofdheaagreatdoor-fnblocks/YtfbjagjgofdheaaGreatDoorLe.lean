import Derived.Test.YtfbjagjgofdheaaGreatDoorLd
namespace Go.Proofs.YtfbjagjgofdheaaGreatDoor
open Go.RowKit
set_option linter.unusedVariables false

/-- what is no row of bytes stays -/
def Kpt (w w' : World) : Prop := ∀ (k : Nat) (c : Array Value) (t : TypeId) (f : Nat × Nat), t ≠ 5 → w.heap[k]? = some (Obj.cells c t f) → w'.heap[k]? = some (Obj.cells c t f)
theorem Kpt.refl (w : World) : Kpt w w := fun _ _ _ _ _ h => h
theorem Kpt.trans {a b c : World} (h : Kpt a b) (k : Kpt b c) : Kpt a c := fun i x t f ht hi => k i x t f ht (h i x t f ht hi)
theorem Kpt.below {w w' : World} (h : Below w.heap.size w w') : Kpt w w' := fun k c t f _ hk => (h.block _ (Array.getElem?_eq_some_iff.1 hk).1).trans hk
theorem Kpt.grown {w0 w1 : World} {o : Obj} {base : Nat} {v : Value} {zs : List Int} (hr : Row8 base w0 v zs) (hg : (w0.alloc o).grownBy w1 v.ownBlock) : Kpt w0 w1 := fun k c t f ht hk => by
  have hlt := (Array.getElem?_eq_some_iff.1 hk).1
  have e1 : (w0.alloc o).heap[k]? = w0.heap[k]? := (belowA w0 o).block k hlt
  rw [hg.block k (by simp; omega) ?_, e1, hk]
  rcases hr.2 with ⟨hv, _⟩ | ⟨g, cap, cur, hv, _, hgc, _⟩
  · rw [hv]; simp [Value.ownBlock]
  · rw [hv]
    intro e
    have eg : k = g := by simpa [Value.ownBlock] using e
    subst eg
    rw [hk] at hgc
    simp only [Option.some.injEq, Obj.cells.injEq] at hgc
    exact ht hgc.2.1

set_option maxHeartbeats 1000000 in
theorem l2Num_k (u : Value) (zs : List Int) (v : Int) (n : Nat) (base : Nat) (w : World) (hu : Row8 base w u zs) (hb : base ≤ w.heap.size) (hz : zs.length ≤ 1048576) (hn : n ≤ 8) :
    Calls Tryz.prog 40 #[u, .int .i64 v, .int .i64 n] w fun e w' => ∃ u', e = .returned u' ∧ Row8 base w' u' (zs ++ leN v n) ∧ Below base w w' ∧ Kpt w w' := by
  go_enter Tryz.func40, Tryz.ntmps40
  go_wp2
  go_loopw [0, 7] (fun u i wr => ∃ k : Nat, k ≤ n ∧ i = .int .i64 k ∧ Row8 base wr u (zs ++ leN v k) ∧ Below base w wr ∧ Kpt w wr) (fun _ i _ => n - (intOf i).toNat)
  case atStart => exact ⟨0, Nat.zero_le _, rfl, by simpa [leN] using hu, Below.refl _ _, Kpt.refl _⟩
  case round =>
    obtain ⟨k, hk, rfl, hown, hbl, hkp⟩ := hrel
    obtain ⟨ua, uc, hua⟩ := hown.shape
    subst hua
    have hsz := hbl.size
    have hfl : (zs ++ leN v k).length < 140737488355328 := by simp [leN_length]; omega
    by_cases hlt : k < n
    · have hki : (k : Int) < (n : Int) := by omega
      have HSN : Hid (zs ++ leN v (k + 1) = (zs ++ leN v k) ++ [leB v k]) := by rw [Hid, leN_snoc, List.append_assoc]
      have HB : Hid (leB v k = v / 2 ^ (8 * k) % 256) := rfl
      generalize zs ++ leN v k = ys at *
      go_wp2_with (first | (at_builtin; refine wpList_append8 rfl _ _ rfl _ hown rfl rfl hfl (by omega) ?_; intro v' w1 hown1 hbel1 hsz1 hgr1) | go_in)
      have HKP : Hid _ := hkp.trans (Kpt.grown hown hgr1)
      rw [← HB.out, ← HSN.out] at hown1
      go_roundw
      case rel => exact ⟨k + 1, by omega, by go_num, hown1, hbl.trans hbel1, HKP.out⟩
      case measure => simp [intOf]; omega
    · obtain rfl : k = n := by omega
      go_wp2
      go_ret
      exact ⟨_, rfl, hown, hbl, hkp⟩

set_option maxRecDepth 100000 in
set_option maxHeartbeats 2000000 in
theorem l2Text_k (u : Value) (zs : List Int) (s : ByteArray) (n : Nat) (base : Nat) (w : World) (hu : Row8 base w u zs) (hb : base ≤ w.heap.size) (hz : zs.length ≤ 1048576) (hn : n ≤ 12) (hs : s.size ≤ n) :
    Calls Tryz.prog 39 #[u, .string s, .int .i64 n] w fun e w' => ∃ u', e = .returned u' ∧ Row8 base w' u' (zs ++ textB s n) ∧ Below base w w' ∧ Kpt w w' := by
  obtain ⟨ua, uc, hua⟩ := hu.shape
  subst hua
  have hfl : zs.length < 140737488355328 := by omega
  have hw : IntKind.u8.wrap (s.size : Int) = (s.size : Int) := IntWalk.u8_in _ ⟨by omega, by omega⟩
  have hpl := padT_length s n hs
  go_enter Tryz.func39, Tryz.ntmps39
  go_wp2_with (first | (at_builtin; refine wpList_append8 rfl _ _ rfl _ hu rfl rfl hfl (by omega) ?_; intro v' w1 hown1 hbel1 hsz1 hgr1) | go_in)
  have HR1 : Hid (Row8 base w1 v' (zs ++ [(s.size : Int)])) := hown1
  have HX1 : Hid (Below base w w1) := hbel1
  have HK1 : Hid (Kpt w w1) := Kpt.grown hu hgr1
  clear hown1 hbel1 hsz1 hgr1 hu hfl
  go_loopw [0, 7] (fun u i wr => ∃ k : Nat, k ≤ n ∧ i = .int .i64 k ∧ Row8 base wr u (zs ++ [(s.size : Int)] ++ (padT s n).take k) ∧ Below base w wr ∧ Kpt w wr) (fun _ i _ => n - (intOf i).toNat)
  case atStart => exact ⟨0, Nat.zero_le _, rfl, by simpa using HR1.out, HX1.out, HK1.out⟩
  case round =>
    obtain ⟨k, hk, rfl, hown, hbl, hkp⟩ := hrel
    obtain ⟨ua, uc, hua⟩ := hown.shape
    subst hua
    have hsz := hbl.size
    have hfl : (zs ++ [(s.size : Int)] ++ (padT s n).take k).length < 140737488355328 := by simp; omega
    by_cases hlt : k < n
    · have hki : (k : Int) < (n : Int) := by omega
      have HSN : Hid (zs ++ [(s.size : Int)] ++ (padT s n).take (k + 1) = (zs ++ [(s.size : Int)] ++ (padT s n).take k) ++ [(padT s n).getD k 0]) := by rw [Hid, take_step _ _ (by omega)]; simp
      generalize zs ++ [(s.size : Int)] ++ (padT s n).take k = ys at *
      by_cases hin : k < s.size
      · have hin2 : (k : Int) < (s.size : Int) := by omega
        go_wp2_with (first | (at_builtin; refine wpList_append8 rfl _ _ rfl _ hown rfl rfl hfl (by omega) ?_; intro v' w1 hown1 hbel1 hsz1 hgr1) | go_in)
        have HP : Hid ((padT s n).getD k 0 = ((s[k]'hin).toNat : Int)) := by
          rw [Hid, padT_in s n k hin, sb_get s k hin]
        rw [HP.out] at HSN
        have HKP : Hid _ := hkp.trans (Kpt.grown hown hgr1)
        rw [← HSN.out] at hown1
        go_roundw
        case rel => exact ⟨k + 1, by omega, by go_num, hown1, hbl.trans hbel1, HKP.out⟩
        case measure => simp [intOf]; omega
      · have hin2 : ¬ (k : Int) < (s.size : Int) := by omega
        have HP : Hid ((padT s n).getD k 0 = 0) := padT_out s n k hin
        go_wp2_with (first | (at_builtin; refine wpList_append8 rfl _ _ rfl _ hown rfl rfl hfl (by omega) ?_; intro v' w1 hown1 hbel1 hsz1 hgr1) | go_in)
        rw [HP.out] at HSN
        have HKP : Hid _ := hkp.trans (Kpt.grown hown hgr1)
        rw [← HSN.out] at hown1
        go_roundw
        case rel => exact ⟨k + 1, by omega, by go_num, hown1, hbl.trans hbel1, HKP.out⟩
        case measure => simp [intOf]; omega
    · obtain rfl : k = n := by omega
      have HE : Hid (zs ++ [(s.size : Int)] ++ (padT s k).take k = zs ++ textB s k) := by rw [Hid, List.take_of_length_le (by omega), padT_text, List.append_assoc]
      have hown2 : Row8 base wr (.slice ua (zs ++ [(s.size : Int)] ++ (padT s k).take k).length uc) (zs ++ textB s k) := by rw [← HE.out]; exact hown
      go_wp2
      go_ret
      exact ⟨_, rfl, hown2, hbl, hkp⟩
end Go.Proofs.YtfbjagjgofdheaaGreatDoor

namespace Go.Proofs.YtfbjagjgofdheaaGreatDoor
open Go.RowKit
set_option linter.unusedVariables false

theorem Row8.four (base : Nat) (w : World) (hb : base ≤ w.heap.size) (a b c d : Int) : Row8 base (w.alloc (.cells #[.int .u8 a, .int .u8 b, .int .u8 c, .int .u8 d] 5)) (.slice (some ⟨w.heap.size, 0, none⟩) 4 4) [a, b, c, d] :=
  World.ownsRow_lit (e := 5) (size := 1) w #[.int .u8 a, .int .u8 b, .int .u8 c, .int .u8 d] 4 hb (by decide) rfl
theorem leN_zero (n : Nat) : leN 0 n = List.replicate n 0 := by
  apply List.ext_getElem?
  intro i
  by_cases h : i < n
  · simp [leN, leB, h]
  · rw [List.getElem?_eq_none (by rw [leN_length]; omega), List.getElem?_eq_none (by simp; omega)]

set_option maxRecDepth 100000 in
set_option maxHeartbeats 2000000 in
theorem specEncN_no (kd : Int) (a : Option Addr) (c : Nat) (es : List E3) (w : World) (hv : NRead w (.slice a es.length c) es) (hn : es.length ≤ 1048576) (hok : ¬ nodeOK kd es) :
    Calls Tryz.prog 22 #[.agg #[.int .i64 kd, .slice a es.length c]] w fun e w' => e = .returned (.tuple #[.slice none 0 0, .int .i64 5]) ∧ Below w.heap.size w w' := by
  have hb0 := belowA w (.cells #[.int .i64 kd, .slice a es.length c] 25)
  have HNO : Hid (¬ nodeOK kd es) := hok
  clear hok
  go_enter Tryz.func22, Tryz.ntmps22
  go_wp2_with fail
  refine (l2NodeOK_any kd a c es _ (hv.below hb0) hn).mono ?_
  rintro e w1 ⟨hb1, ⟨hyes, -⟩ | ⟨-, rfl⟩⟩
  case inl => exact absurd hyes HNO.out
  have hB1 := hb0.trans (hb1.mono hb0.size)
  go_wp2
  exact bodyPost_ret (v := .tuple #[.slice none 0 0, .int .i64 5]) (by simp [results, Tryz.results22, go_sem]) rfl ⟨rfl, hB1⟩

set_option maxRecDepth 100000 in
set_option maxHeartbeats 4000000 in
theorem specEncL_yes (a : Option Addr) (c : Nat) (es : List E3) (w : World) (hv : NRead w (.slice a es.length c) es) (hok : nodeOK 1 es) :
    Calls Tryz.prog 22 #[.agg #[.int .i64 1, .slice a es.length c]] w fun e w' => ∃ u, e = .returned (.tuple #[u, .int .i64 0]) ∧ Row8 w.heap.size w' u (nodL 1 es) ∧ Below w.heap.size w w' := by
  have hl := hok.kind.2
  have hb0 := belowA w (.cells #[.int .i64 1, .slice a es.length c] 25)
  have hX := heap_alloc_new w (.cells #[.int .i64 1, .slice a es.length c] 25)
  have hs0 : w.heap.size < (w.alloc (.cells #[.int .i64 1, .slice a es.length c] 25)).heap.size := by simp
  have HE : Hid (nodL 1 es = sealL (nodQ 1 es es.length)) := rfl
  have HOK : Hid (nodeOK 1 es) := hok
  clear hok
  go_enter Tryz.func22, Tryz.ntmps22
  go_wp2_with fail
  refine (l2NodeOK_any 1 a c es _ (hv.below hb0) (by omega)).mono ?_
  rintro e w1 ⟨hb1, ⟨-, rfl⟩ | ⟨hno, -⟩⟩
  case inr => exact absurd HOK.out hno
  have hB1 := hb0.trans (hb1.mono hb0.size)
  have hlt1 : w.heap.size < w1.heap.size := Nat.lt_of_lt_of_le hs0 hb1.size
  have hX1 := (hb1.block _ hs0).trans hX
  have HBX : Hid (∀ X : World, Below w1.heap.size w1 X → X.cell? ⟨w.heap.size, 0, none⟩ = some (.int .i64 1) ∧ X.cell? ⟨w.heap.size, 1, none⟩ = some (.slice a es.length c)) := fun X hX => by
    obtain ⟨q0, q1, -, -⟩ := row2 ((hX.block _ hlt1).trans hX1)
    exact ⟨q0, q1⟩
  have HRX : Hid (∀ X : World, Below w1.heap.size w1 X → NRead X (.slice a es.length c) es) := fun X hX => (hv.below hB1).below hX
  clear hX hb1 hs0 hX1 hv hb0
  obtain ⟨k0, k1⟩ := HBX.out w1 (Below.refl _ _)
  have hr2 := Row8.four w1.heap.size w1 (Nat.le_refl _) 1 es.length 0 0
  have hx2 : Below w1.heap.size w1 (w1.alloc (.cells #[.int .u8 1, .int .u8 es.length, .int .u8 0, .int .u8 0] 5)) := belowA w1 _
  have HQ0 : Hid (nodQ 1 es 0 = [1, (es.length : Int), 0, 0]) := rfl
  rw [← HQ0.out] at hr2
  have HR5 : Hid _ := hr2
  have HX2 : Hid (Below w1.heap.size w1 (w1.alloc (.cells #[.int .u8 1, .int .u8 es.length, .int .u8 0, .int .u8 0] 5))) := hx2
  clear hr2 hx2
  go_wp2
  clear k0 k1
  go_loopw [4, 5] (fun u i wr => ∃ k : Nat, k ≤ es.length ∧ i = .int .i64 k ∧ Row8 w1.heap.size wr u (nodQ 1 es k) ∧ Below w1.heap.size w1 wr) (fun _ i _ => es.length - (intOf i).toNat)
  case atStart => exact ⟨0, Nat.zero_le _, rfl, HR5.out, HX2.out⟩
  case round =>
    obtain ⟨k, hk, rfl, hown, hX⟩ := hrel
    clear HR5 HX2
    obtain ⟨ua, uc, hua⟩ := hown.shape
    subst hua
    obtain ⟨b0, b1⟩ := HBX.out _ hX
    have hsX := hX.size
    by_cases hlt : k < es.length
    · have hki : (k : Int) < (es.length : Int) := by omega
      obtain ⟨_, _, he, hc⟩ := HRX.out _ hX
      simp only [Value.slice.injEq, true_and] at he
      obtain ⟨rfl, rfl⟩ := he
      obtain ⟨b, off, rfl, hcell⟩ := hc (by omega)
      obtain ⟨g1, g2, g3⟩ := hcell k hlt
      have hln := nodQ_length HOK.out k (by omega)
      obtain ⟨⟨hks, -⟩, hke⟩ := HOK.out.2 k hlt
      have HSN : Hid (nodQ 1 es (k + 1) = nodQ 1 es k ++ entB 1 (es.getD k e0)) := rfl
      obtain ⟨p, HP⟩ : ∃ p, Hid (es.getD k e0 = p) := ⟨_, rfl⟩
      rw [HP.out] at g1 g2 g3 HSN hks hke
      have HKS : Hid (p.1.size ≤ 12) := hks
      have HKE : Hid (entOK 1 p) := hke
      clear hks hke
      obtain ⟨x, y, z⟩ := p
      simp only at g1 g2 g3
      have HLN : Hid ((nodQ 1 es k).length = 4 + 24 * k) := hln
      clear hcell hc hln
      generalize htk : nodQ 1 es k = tk at *
      have hXe : Below w1.heap.size w1 (wr.alloc (.cells #[.string x, .string y, .int .i64 z] 52)) := hX.trans ((belowA wr (.cells #[.string x, .string y, .int .i64 z] 52)).mono hsX)
      have HBE : Hid (∀ X : World, Kpt (wr.alloc (.cells #[.string x, .string y, .int .i64 z] 52)) X → X.cell? ⟨wr.heap.size, 0, none⟩ = some (.string x) ∧ X.cell? ⟨wr.heap.size, 1, none⟩ = some (.string y) ∧ X.cell? ⟨wr.heap.size, 2, none⟩ = some (.int .i64 z)) := fun X h => by
        have q := h wr.heap.size _ 52 (0, 0) (by decide) (heap_alloc_new wr (.cells #[.string x, .string y, .int .i64 z] 52))
        simp [World.cell?, q]
      obtain ⟨p0, p1, p2⟩ := HBE.out _ (Kpt.refl _)
      obtain ⟨b0', b1'⟩ := HBX.out _ hXe
      have hown' := hown.alloc (.cells #[.string x, .string y, .int .i64 z] 52)
      have hse : w1.heap.size ≤ (wr.alloc (.cells #[.string x, .string y, .int .i64 z] 52)).heap.size := hXe.size
      clear hown hX
      go_wp2_with fail
      refine (l2Text_k _ tk x 12 w1.heap.size _ hown' hse (by rw [HLN.out]; omega) (by omega) HKS.out).mono ?_
      rintro e w3 ⟨u3, rfl, hR3, hb3, hk3⟩
      have hX3 := hXe.trans hb3
      obtain ⟨m0, m1⟩ := HBX.out _ hX3
      obtain ⟨n0, n1, n2⟩ := HBE.out _ hk3
      have hs3 := hX3.size
      have HL3 : Hid ((tk ++ textB x 12).length = 17 + 24 * k) := by rw [Hid, List.length_append, textB_length _ _ HKS.out, HLN.out]; omega
      have HS3 : Hid (nodQ 1 es (k + 1) = (tk ++ textB x 12) ++ tailB 1 (x, y, z)) := by rw [Hid, HSN.out, entB, List.append_assoc]
      clear p0 p1 p2 g1 g2 g3 b0 b1 b0' b1' hown' hse hb3 HLN HSN hXe
      generalize tk ++ textB x 12 = t3 at *
      obtain ⟨va, vc, hva⟩ := hR3.shape
      subst hva
      go_wp2_with fail
      refine (l2Text_k _ t3 y 10 w1.heap.size _ hR3 hs3 (by rw [HL3.out]; omega) (by omega) (HKE.out.val rfl)).mono ?_
      rintro e w4 ⟨u4, rfl, hR4, hb4, -⟩
      have HT : Hid (tailB 1 (x, y, z) = textB y 10) := rfl
      rw [← HT.out, ← HS3.out] at hR4
      have hX4 := hX3.trans hb4
      clear m0 m1 n0 n1 n2
      go_wp2
      go_roundw
      case rel => exact ⟨k + 1, by omega, by go_num, hR4, hX4⟩
      case measure => simp [intOf]; omega
    · obtain rfl : k = es.length := by omega
      have hl2 : (nodQ 1 es es.length).length ≤ 124 := by rw [nodQ_length HOK.out _ (Nat.le_refl _)]; omega
      have HB : Hid (Byt (nodQ 1 es es.length)) := nodQ_byt HOK.out _ (Nat.le_refl _)
      go_wp2_with fail
      refine (l2Seal_any _ (nodQ 1 es es.length) w1.heap.size _ hown (by omega) hl2 HB.out).mono ?_
      rintro e w3 ⟨u3, rfl, hR3, hb3⟩
      rw [← HE.out] at hR3
      have hB3 := hB1.trans ((hX.trans hb3).mono (by omega))
      go_wp2
      refine bodyPost_ret (v := .tuple #[u3, .int .i64 0]) (by simp [results, Tryz.results22, go_sem]) rfl ⟨_, rfl, hR3.lower (by omega), hB3⟩

set_option maxRecDepth 100000 in
set_option maxHeartbeats 4000000 in
theorem specEncI_yes (a : Option Addr) (c : Nat) (es : List E3) (w : World) (hv : NRead w (.slice a es.length c) es) (hok : nodeOK 2 es) :
    Calls Tryz.prog 22 #[.agg #[.int .i64 2, .slice a es.length c]] w fun e w' => ∃ u, e = .returned (.tuple #[u, .int .i64 0]) ∧ Row8 w.heap.size w' u (nodL 2 es) ∧ Below w.heap.size w w' := by
  have hl := hok.kind.2
  have hb0 := belowA w (.cells #[.int .i64 2, .slice a es.length c] 25)
  have hX := heap_alloc_new w (.cells #[.int .i64 2, .slice a es.length c] 25)
  have hs0 : w.heap.size < (w.alloc (.cells #[.int .i64 2, .slice a es.length c] 25)).heap.size := by simp
  have HE : Hid (nodL 2 es = sealL (nodQ 2 es es.length)) := rfl
  have HOK : Hid (nodeOK 2 es) := hok
  clear hok
  go_enter Tryz.func22, Tryz.ntmps22
  go_wp2_with fail
  refine (l2NodeOK_any 2 a c es _ (hv.below hb0) (by omega)).mono ?_
  rintro e w1 ⟨hb1, ⟨-, rfl⟩ | ⟨hno, -⟩⟩
  case inr => exact absurd HOK.out hno
  have hB1 := hb0.trans (hb1.mono hb0.size)
  have hlt1 : w.heap.size < w1.heap.size := Nat.lt_of_lt_of_le hs0 hb1.size
  have hX1 := (hb1.block _ hs0).trans hX
  have HBX : Hid (∀ X : World, Below w1.heap.size w1 X → X.cell? ⟨w.heap.size, 0, none⟩ = some (.int .i64 2) ∧ X.cell? ⟨w.heap.size, 1, none⟩ = some (.slice a es.length c)) := fun X hX => by
    obtain ⟨q0, q1, -, -⟩ := row2 ((hX.block _ hlt1).trans hX1)
    exact ⟨q0, q1⟩
  have HRX : Hid (∀ X : World, Below w1.heap.size w1 X → NRead X (.slice a es.length c) es) := fun X hX => (hv.below hB1).below hX
  clear hX hb1 hs0 hX1 hv hb0
  obtain ⟨k0, k1⟩ := HBX.out w1 (Below.refl _ _)
  have hr2 := Row8.four w1.heap.size w1 (Nat.le_refl _) 2 es.length 0 0
  have hx2 : Below w1.heap.size w1 (w1.alloc (.cells #[.int .u8 2, .int .u8 es.length, .int .u8 0, .int .u8 0] 5)) := belowA w1 _
  have HQ0 : Hid (nodQ 2 es 0 = [2, (es.length : Int), 0, 0]) := rfl
  rw [← HQ0.out] at hr2
  have HR5 : Hid _ := hr2
  have HX2 : Hid (Below w1.heap.size w1 (w1.alloc (.cells #[.int .u8 2, .int .u8 es.length, .int .u8 0, .int .u8 0] 5))) := hx2
  clear hr2 hx2
  go_wp2
  clear k0 k1
  go_loopw [4, 5] (fun u i wr => ∃ k : Nat, k ≤ es.length ∧ i = .int .i64 k ∧ Row8 w1.heap.size wr u (nodQ 2 es k) ∧ Below w1.heap.size w1 wr) (fun _ i _ => es.length - (intOf i).toNat)
  case atStart => exact ⟨0, Nat.zero_le _, rfl, HR5.out, HX2.out⟩
  case round =>
    obtain ⟨k, hk, rfl, hown, hX⟩ := hrel
    clear HR5 HX2
    obtain ⟨ua, uc, hua⟩ := hown.shape
    subst hua
    obtain ⟨b0, b1⟩ := HBX.out _ hX
    have hsX := hX.size
    by_cases hlt : k < es.length
    · have hki : (k : Int) < (es.length : Int) := by omega
      obtain ⟨_, _, he, hc⟩ := HRX.out _ hX
      simp only [Value.slice.injEq, true_and] at he
      obtain ⟨rfl, rfl⟩ := he
      obtain ⟨b, off, rfl, hcell⟩ := hc (by omega)
      obtain ⟨g1, g2, g3⟩ := hcell k hlt
      have hln := nodQ_length HOK.out k (by omega)
      obtain ⟨⟨hks, -⟩, hke⟩ := HOK.out.2 k hlt
      have HSN : Hid (nodQ 2 es (k + 1) = nodQ 2 es k ++ entB 2 (es.getD k e0)) := rfl
      obtain ⟨p, HP⟩ : ∃ p, Hid (es.getD k e0 = p) := ⟨_, rfl⟩
      rw [HP.out] at g1 g2 g3 HSN hks hke
      have HKS : Hid (p.1.size ≤ 12) := hks
      have HKE : Hid (entOK 2 p) := hke
      clear hks hke
      obtain ⟨x, y, z⟩ := p
      simp only at g1 g2 g3
      have HLN : Hid ((nodQ 2 es k).length = 4 + 24 * k) := hln
      clear hcell hc hln
      generalize htk : nodQ 2 es k = tk at *
      have hXe : Below w1.heap.size w1 (wr.alloc (.cells #[.string x, .string y, .int .i64 z] 52)) := hX.trans ((belowA wr (.cells #[.string x, .string y, .int .i64 z] 52)).mono hsX)
      have HBE : Hid (∀ X : World, Kpt (wr.alloc (.cells #[.string x, .string y, .int .i64 z] 52)) X → X.cell? ⟨wr.heap.size, 0, none⟩ = some (.string x) ∧ X.cell? ⟨wr.heap.size, 1, none⟩ = some (.string y) ∧ X.cell? ⟨wr.heap.size, 2, none⟩ = some (.int .i64 z)) := fun X h => by
        have q := h wr.heap.size _ 52 (0, 0) (by decide) (heap_alloc_new wr (.cells #[.string x, .string y, .int .i64 z] 52))
        simp [World.cell?, q]
      obtain ⟨p0, p1, p2⟩ := HBE.out _ (Kpt.refl _)
      obtain ⟨b0', b1'⟩ := HBX.out _ hXe
      have hown' := hown.alloc (.cells #[.string x, .string y, .int .i64 z] 52)
      have hse : w1.heap.size ≤ (wr.alloc (.cells #[.string x, .string y, .int .i64 z] 52)).heap.size := hXe.size
      clear hown hX
      go_wp2_with fail
      refine (l2Text_k _ tk x 12 w1.heap.size _ hown' hse (by rw [HLN.out]; omega) (by omega) HKS.out).mono ?_
      rintro e w3 ⟨u3, rfl, hR3, hb3, hk3⟩
      have hX3 := hXe.trans hb3
      obtain ⟨m0, m1⟩ := HBX.out _ hX3
      obtain ⟨n0, n1, n2⟩ := HBE.out _ hk3
      have hs3 := hX3.size
      have HL3 : Hid ((tk ++ textB x 12).length = 17 + 24 * k) := by rw [Hid, List.length_append, textB_length _ _ HKS.out, HLN.out]; omega
      have HS3 : Hid (nodQ 2 es (k + 1) = (tk ++ textB x 12) ++ tailB 2 (x, y, z)) := by rw [Hid, HSN.out, entB, List.append_assoc]
      clear p0 p1 p2 g1 g2 g3 b0 b1 b0' b1' hown' hse hb3 HLN HSN hXe
      generalize tk ++ textB x 12 = t3 at *
      obtain ⟨va, vc, hva⟩ := hR3.shape
      subst hva
      go_wp2_with fail
      refine (l2Num_any _ t3 z 2 w1.heap.size _ hR3 hs3 (by rw [HL3.out]; omega) (by omega)).mono ?_
      rintro e w4 ⟨u4, rfl, hR4, hb4⟩
      have hX4 := hX3.trans hb4
      have hs4 := hX4.size
      have HL4 : Hid ((t3 ++ leN z 2).length = 19 + 24 * k) := by rw [Hid, List.length_append, leN_length, HL3.out]; omega
      have HT : Hid (t3 ++ leN z 2 ++ leN 0 7 ++ leN 0 2 = t3 ++ tailB 2 (x, y, z)) := by
        rw [Hid, leN_zero, leN_zero]
        unfold tailB
        rw [if_neg (by decide)]
        simp only [List.append_assoc, List.replicate_append_replicate]
      clear m0 m1 n0 n1 n2 hb4 HL3 hR3
      generalize t3 ++ leN z 2 = t4 at *
      obtain ⟨va, vc, hva⟩ := hR4.shape
      subst hva
      go_wp2_with fail
      refine (l2Num_any _ t4 0 7 w1.heap.size _ hR4 hs4 (by rw [HL4.out]; omega) (by omega)).mono ?_
      rintro e w5 ⟨u5, rfl, hR5, hb5⟩
      have hX5 := hX4.trans hb5
      have hs5 := hX5.size
      have HL5 : Hid ((t4 ++ leN 0 7).length = 26 + 24 * k) := by rw [Hid, List.length_append, leN_length, HL4.out]; omega
      clear hb5 HL4 hR4
      generalize t4 ++ leN 0 7 = t5 at *
      obtain ⟨va, vc, hva⟩ := hR5.shape
      subst hva
      go_wp2_with fail
      refine (l2Num_any _ t5 0 2 w1.heap.size _ hR5 hs5 (by rw [HL5.out]; omega) (by omega)).mono ?_
      rintro e w6 ⟨u6, rfl, hR6, hb6⟩
      rw [HT.out, ← HS3.out] at hR6
      have hX6 := hX5.trans hb6
      go_wp2
      go_roundw
      case rel => exact ⟨k + 1, by omega, by go_num, hR6, hX6⟩
      case measure => simp [intOf]; omega
    · obtain rfl : k = es.length := by omega
      have hl2 : (nodQ 2 es es.length).length ≤ 124 := by rw [nodQ_length HOK.out _ (Nat.le_refl _)]; omega
      have HB : Hid (Byt (nodQ 2 es es.length)) := nodQ_byt HOK.out _ (Nat.le_refl _)
      go_wp2_with fail
      refine (l2Seal_any _ (nodQ 2 es es.length) w1.heap.size _ hown (by omega) hl2 HB.out).mono ?_
      rintro e w3 ⟨u3, rfl, hR3, hb3⟩
      rw [← HE.out] at hR3
      have hB3 := hB1.trans ((hX.trans hb3).mono (by omega))
      go_wp2
      refine bodyPost_ret (v := .tuple #[u3, .int .i64 0]) (by simp [results, Tryz.results22, go_sem]) rfl ⟨_, rfl, hR3.lower (by omega), hB3⟩
end Go.Proofs.YtfbjagjgofdheaaGreatDoor

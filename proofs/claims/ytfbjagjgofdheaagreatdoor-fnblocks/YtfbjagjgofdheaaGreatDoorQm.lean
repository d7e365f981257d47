import Derived.Test.YtfbjagjgofdheaaGreatDoorQl
import Derived.Test.YtfbjagjgofdheaaGreatDoorQh
import Derived.Test.YtfbjagjgofdheaaGreatDoorQj
import Derived.Test.YtfbjagjgofdheaaGreatDoorQe
import Derived.Test.YtfbjagjgofdheaaGreatDoorKb
import Derived.OrdersHeld
import Derived.Deep.RegionHeld
namespace Go.Proofs.YtfbjagjgofdheaaGreatDoor
open Go.RowKit
set_option linter.unusedVariables false

/-- the source at its beginning -/
def st0 (zs : List Int) : Nat × Int := (0, bgN zs zs.length)
theorem l2DrawNode_x (base g : Nat) (a : Option Addr) (c : Nat) (zs : List Int) (p : St2) (w : World) (hs : SrcX base g a c zs p w) :
    Calls Tryz.prog 25 #[.pointer (some ⟨g, 0, none⟩)] w fun e w' => (∃ a c, e = .returned (.agg #[.int .i64 (dnV zs p).1, .slice a (dnV zs p).2.length c]) ∧ NRead w' (.slice a (dnV zs p).2.length c) (dnV zs p).2) ∧ SrcX base g a c zs (dnQ zs p).2 w' ∧ Frm (· = g) w w' := by
  rcases dnKd_in zs p with h | h
  · exact l2DrawLeaf_x base g a c zs p w hs h
  · exact l2DrawInner_x base g a c zs p w hs h
/-- the source's box -/
theorem src_new {w w1 : World} {a : Option Addr} {c : Nat} {zs : List Int} (hv : Bts w (.slice a zs.length c) zs) (hl : zs.length ≤ 1048576) (hb : Below w.heap.size w w1) (t : TypeId) : SrcX w.heap.size w1.heap.size a c zs (st0 zs) (w1.alloc (.cells #[.slice a zs.length c, .int .i64 0, .int .u64 (bgN zs zs.length)] t)) := by
  have hbA := belowA w1 (.cells #[.slice a zs.length c, .int .i64 0, .int .u64 (bgN zs zs.length)] t)
  refine ⟨(hv.below hb).below hbA, fun h0 b off hab => ?_, hb.size, hl, Nat.zero_le _, ?_⟩
  · obtain ⟨_, _, he, hc⟩ := hv.shape
    simp only [Value.slice.injEq, true_and] at he
    obtain ⟨rfl, rfl⟩ := he
    obtain ⟨b', off', hab', hcell⟩ := hc h0
    rw [hab'] at hab
    cases hab
    exact World.block_lt_of_cell? _ _ (hcell 0 h0)
  · refine ⟨World.cell?_alloc_at _ _ _ _ rfl, World.cell?_alloc_at _ _ _ _ rfl, World.cell?_alloc_at _ _ _ _ rfl, World.frozen?_alloc_at _ _ _ _ rfl, World.frozen?_alloc_at _ _ _ _ rfl, World.frozen?_alloc_at _ _ _ _ rfl⟩

/-- what spec.DrawDecodeTable draws -/
def ddT0 (zs : List Int) : List Int := tabL (dtabN zs (st0 zs)) (drQ zs (st0 zs)).1
def ddT (zs : List Int) : List Int := if nxV zs (dtabS zs (st0 zs)) 2 = 0 then spD zs (nxS zs (dtabS zs (st0 zs))) (ddT0 zs) else ddT0 zs
theorem ddT0_len (zs : List Int) : (ddT0 zs).length = 128 := tabL_length (dtab_ok zs _).2.1
theorem ddT0_byt (zs : List Int) : Byt (ddT0 zs) := (tabP_byt _ _ (dtab_ok zs _).2.1 _).seal
theorem ddT_byt (zs : List Int) : Byt (ddT zs) := by
  unfold ddT
  split
  · exact spD_byt zs _ (ddT0_byt zs)
  · exact ddT0_byt zs
theorem spD_len (zs : List Int) (p : Nat × Int) {bs : List Int} (hl : bs.length = 128) : 127 ≤ (spD zs p bs).length ∧ (spD zs p bs).length ≤ 129 := by
  unfold spD
  split
  · simp; omega
  · split
    · simp; omega
    · split
      · rw [sealL_length _ (by simp; omega)]; omega
      · unfold spO; rw [List.length_set]; omega
theorem ddT_len (zs : List Int) : 127 ≤ (ddT zs).length ∧ (ddT zs).length ≤ 129 := by
  unfold ddT
  split
  · exact spD_len zs _ (ddT0_len zs)
  · have := ddT0_len zs; omega

set_option maxRecDepth 100000 in
set_option maxHeartbeats 4000000 in
theorem drawDecT_x (a : Option Addr) (c : Nat) (zs : List Int) (w : World) (hv : Bts w (.slice a zs.length c) zs) (hl : zs.length ≤ 1048576) :
    Calls Tryz.prog 10 #[.slice a zs.length c] w fun e w' => (∃ a c, e = .returned (.slice a (ddT zs).length c) ∧ Bts w' (.slice a (ddT zs).length c) (ddT zs) ∧ (ddT zs).length ≤ c) ∧ Below w.heap.size w w' := by
  have HM : Hid (ddT zs = if nxV zs (dtabS zs (st0 zs)) 2 = 0 then spD zs (nxS zs (dtabS zs (st0 zs))) (ddT0 zs) else ddT0 zs) := rfl
  have HM0 : Hid (tabL (dtabN zs (st0 zs)) (drQ zs (st0 zs)).1 = ddT0 zs) := rfl
  have HL0 : Hid ((ddT0 zs).length = 128) := ddT0_len zs
  have HB0 : Hid (Byt (ddT0 zs)) := ddT0_byt zs
  have HV : Hid _ := hv
  obtain ⟨p0, HP0⟩ : ∃ p0, Hid (st0 zs = p0) := ⟨_, rfl⟩
  have HOK : Hid (tbOK (dtabN zs (st0 zs)) (drQ zs (st0 zs)).1) := dtab_ok zs _
  rw [HP0.out] at HM HM0 HOK
  obtain ⟨M, HMM⟩ : ∃ M, Hid (ddT zs = M) := ⟨_, rfl⟩
  rw [HMM.out] at HM ⊢
  clear HMM
  generalize ddT0 zs = M0 at *
  go_enter Tryz.func10, Tryz.ntmps10
  go_wp2_with fail
  refine (l1Begin_x a c zs _ hv hl).mono ?_
  rintro e w1 ⟨rfl, hb1⟩
  have hs2 := src_new hv hl hb1 56
  rw [HP0.out] at hs2
  have hB2 := hb1.trans ((belowA w1 (.cells #[.slice a zs.length c, .int .i64 0, .int .u64 (bgN zs zs.length)] 56)).mono hb1.size)
  have HG : Hid (w.heap.size ≤ w1.heap.size) := hb1.size
  clear hb1
  go_wp2_with fail
  generalize w1.alloc (.cells #[.slice a zs.length c, .int .i64 0, .int .u64 (bgN zs zs.length)] 56) = W2 at *
  obtain ⟨g, HGG⟩ : ∃ g, Hid (w1.heap.size = g) := ⟨_, rfl⟩
  rw [HGG.out] at hs2 HG ⊢
  refine (l2DrawTable_x w.heap.size g a c zs p0 _ hs2).mono ?_
  rintro e w3 ⟨⟨va, vc, rfl, hr3⟩, hs3, hf3⟩
  have hB3 : Below w.heap.size w w3 := hB2.trans (hf3.below hB2.size (fun k hk => by have := HG.out; omega))
  clear hs2 hB2 hf3
  generalize drQ zs p0 = Q at *
  generalize dtabN zs p0 = NX at *
  go_wp2_with fail
  refine (specEncT_yes NX va vc Q.1 _ hr3 HOK.out).mono ?_
  rintro e w4 ⟨u4, rfl, hR4, hb4⟩
  rw [HM0.out] at hR4
  have hs4 := hs3.below hb4
  have hB4 := hB3.trans (hb4.mono hB3.size)
  have hg4 : g < w3.heap.size := hs3.lt
  clear hs3 hr3 hb4 hB3
  go_wp2_with fail
  refine (l1Next_x w.heap.size g a c zs _ 2 (by decide) (by decide) _ hs4).mono ?_
  rintro e w5 ⟨rfl, hs5, hf5⟩
  have hB5 : Below w.heap.size w w5 := hB4.trans (hf5.below hB4.size (fun k hk => by have := HG.out; omega))
  have hR5 : Row8 w3.heap.size w5 u4 M0 := hR4.frm hf5 hg4
  clear hR4 hs4 hf5 hB4
  generalize nxV zs (dtabS zs p0) 2 = y2 at *
  by_cases hy : y2 = 0
  · have hyb : (y2 == 0) = true := by simpa using hy
    rw [if_pos hy] at HM
    obtain ⟨ua, uc, hua⟩ := hR5.shape
    subst hua
    have hBt5 := Row8.bts hR5 HB0.out
    have HSP : Hid _ := l2Spoil_x w.heap.size g a c zs (nxS zs (dtabS zs p0)) (.slice ua M0.length uc) M0 HB0.out HL0.out w5 hBt5 hs5
    rw [← HM.out] at HSP
    clear hy hR5 hBt5 hs5 HM
    go_wp2_with fail
    refine Calls.mono HSP.out ?_
    rintro e w6 ⟨⟨xa, xc, rfl, hB6, hc6⟩, hf6⟩
    have hBw : Below w.heap.size w w6 := hB5.trans (hf6.below hB5.size (fun k hk => by have := HG.out; omega))
    have HE : Hid (Bts w6 (.slice xa M.length xc) M ∧ M.length ≤ xc) := ⟨hB6, hc6⟩
    clear hB6 hc6 hf6 HSP
    go_wp2
    go_ret
    exact ⟨⟨xa, xc, rfl, HE.out.1, HE.out.2⟩, hBw⟩
  · have hyb : (y2 == 0) = false := by simpa using hy
    rw [if_neg hy] at HM
    have hMM : M = M0 := HM.out
    subst hMM
    obtain ⟨q, cap, cur, hu, -, -, hcap, -⟩ := hR5.lay (by rw [HL0.out]; omega)
    subst hu
    have HE : Hid (Bts w5 (.slice (some ⟨q, 0, none⟩) M.length cap) M ∧ M.length ≤ cap) := ⟨Row8.bts hR5 HB0.out, hcap⟩
    clear hy hR5 hcap HM hs5
    go_wp2
    go_ret
    exact ⟨⟨_, _, rfl, HE.out.1, HE.out.2⟩, hB5⟩

/-- what spec.DrawDecodeSuper draws -/
def ddS0 (zs : List Int) : List Int := supL (dsB zs (st0 zs)) (dsG zs (st0 zs)) (dsX zs (st0 zs)) (dsT zs (st0 zs)) (dsR zs (st0 zs)).1
def ddS (zs : List Int) : List Int := if nxV zs (dsS zs (st0 zs)) 2 = 0 then spD zs (nxS zs (dsS zs (st0 zs))) (ddS0 zs) else ddS0 zs
theorem ddS0_len (zs : List Int) : (ddS0 zs).length = 128 := supL_length (dsV_ok zs _).2.1.2
theorem ddS0_byt (zs : List Int) : Byt (ddS0 zs) := (supQ_byt _ _ _ _ _ (dsV_ok zs _).2.1.2 _).seal
theorem ddS_byt (zs : List Int) : Byt (ddS zs) := by
  unfold ddS
  split
  · exact spD_byt zs _ (ddS0_byt zs)
  · exact ddS0_byt zs
theorem ddS_len (zs : List Int) : 127 ≤ (ddS zs).length ∧ (ddS zs).length ≤ 129 := by
  unfold ddS
  split
  · exact spD_len zs _ (ddS0_len zs)
  · have := ddS0_len zs; omega

set_option maxRecDepth 100000 in
set_option maxHeartbeats 4000000 in
theorem drawDecS_x (a : Option Addr) (c : Nat) (zs : List Int) (w : World) (hv : Bts w (.slice a zs.length c) zs) (hl : zs.length ≤ 1048576) :
    Calls Tryz.prog 15 #[.slice a zs.length c] w fun e w' => (∃ a c, e = .returned (.slice a (ddS zs).length c) ∧ Bts w' (.slice a (ddS zs).length c) (ddS zs) ∧ (ddS zs).length ≤ c) ∧ Below w.heap.size w w' := by
  have HM : Hid (ddS zs = if nxV zs (dsS zs (st0 zs)) 2 = 0 then spD zs (nxS zs (dsS zs (st0 zs))) (ddS0 zs) else ddS0 zs) := rfl
  have HM0 : Hid (supL (dsB zs (st0 zs)) (dsG zs (st0 zs)) (dsX zs (st0 zs)) (dsT zs (st0 zs)) (dsR zs (st0 zs)).1 = ddS0 zs) := rfl
  have HL0 : Hid ((ddS0 zs).length = 128) := ddS0_len zs
  have HB0 : Hid (Byt (ddS0 zs)) := ddS0_byt zs
  have HV : Hid _ := hv
  obtain ⟨p0, HP0⟩ : ∃ p0, Hid (st0 zs = p0) := ⟨_, rfl⟩
  have HOK : Hid (spOK (dsB zs (st0 zs)) (dsG zs (st0 zs)) (dsX zs (st0 zs)) (dsT zs (st0 zs)) (dsR zs (st0 zs)).1) := dsV_ok zs _
  rw [HP0.out] at HM HM0 HOK
  obtain ⟨M, HMM⟩ : ∃ M, Hid (ddS zs = M) := ⟨_, rfl⟩
  rw [HMM.out] at HM ⊢
  clear HMM
  generalize ddS0 zs = M0 at *
  go_enter Tryz.func15, Tryz.ntmps15
  go_wp2_with fail
  refine (l1Begin_x a c zs _ hv hl).mono ?_
  rintro e w1 ⟨rfl, hb1⟩
  have hs2 := src_new hv hl hb1 56
  rw [HP0.out] at hs2
  have hB2 := hb1.trans ((belowA w1 (.cells #[.slice a zs.length c, .int .i64 0, .int .u64 (bgN zs zs.length)] 56)).mono hb1.size)
  have HG : Hid (w.heap.size ≤ w1.heap.size) := hb1.size
  clear hb1
  go_wp2_with fail
  generalize w1.alloc (.cells #[.slice a zs.length c, .int .i64 0, .int .u64 (bgN zs zs.length)] 56) = W2 at *
  obtain ⟨g, HGG⟩ : ∃ g, Hid (w1.heap.size = g) := ⟨_, rfl⟩
  rw [HGG.out] at hs2 HG ⊢
  refine (l2DrawSuper_x w.heap.size g a c zs p0 _ hs2).mono ?_
  rintro e w3 ⟨⟨va, vc, rfl, hr3⟩, hs3, hf3⟩
  have hB3 : Below w.heap.size w w3 := hB2.trans (hf3.below hB2.size (fun k hk => by have := HG.out; omega))
  clear hs2 hB2 hf3
  generalize dsR zs p0 = Q at *
  generalize dsB zs p0 = fB at *
  generalize dsG zs p0 = fG at *
  generalize dsX zs p0 = fX at *
  generalize dsT zs p0 = fT at *
  go_wp2_with fail
  refine (specEncS_yes fB fG fX fT va vc Q.1 _ hr3 HOK.out).mono ?_
  rintro e w4 ⟨u4, rfl, hR4, hb4⟩
  rw [HM0.out] at hR4
  have hs4 := hs3.below hb4
  have hB4 := hB3.trans (hb4.mono hB3.size)
  have hg4 : g < w3.heap.size := hs3.lt
  clear hs3 hr3 hb4 hB3
  go_wp2_with fail
  refine (l1Next_x w.heap.size g a c zs _ 2 (by decide) (by decide) _ hs4).mono ?_
  rintro e w5 ⟨rfl, hs5, hf5⟩
  have hB5 : Below w.heap.size w w5 := hB4.trans (hf5.below hB4.size (fun k hk => by have := HG.out; omega))
  have hR5 : Row8 w3.heap.size w5 u4 M0 := hR4.frm hf5 hg4
  clear hR4 hs4 hf5 hB4
  generalize nxV zs (dsS zs p0) 2 = y2 at *
  by_cases hy : y2 = 0
  · have hyb : (y2 == 0) = true := by simpa using hy
    rw [if_pos hy] at HM
    obtain ⟨ua, uc, hua⟩ := hR5.shape
    subst hua
    have hBt5 := Row8.bts hR5 HB0.out
    have HSP : Hid _ := l2Spoil_x w.heap.size g a c zs (nxS zs (dsS zs p0)) (.slice ua M0.length uc) M0 HB0.out HL0.out w5 hBt5 hs5
    rw [← HM.out] at HSP
    clear hy hR5 hBt5 hs5 HM
    go_wp2_with fail
    refine Calls.mono HSP.out ?_
    rintro e w6 ⟨⟨xa, xc, rfl, hB6, hc6⟩, hf6⟩
    have hBw : Below w.heap.size w w6 := hB5.trans (hf6.below hB5.size (fun k hk => by have := HG.out; omega))
    have HE : Hid (Bts w6 (.slice xa M.length xc) M ∧ M.length ≤ xc) := ⟨hB6, hc6⟩
    clear hB6 hc6 hf6 HSP
    go_wp2
    go_ret
    exact ⟨⟨xa, xc, rfl, HE.out.1, HE.out.2⟩, hBw⟩
  · have hyb : (y2 == 0) = false := by simpa using hy
    rw [if_neg hy] at HM
    have hMM : M = M0 := HM.out
    subst hMM
    obtain ⟨q, cap, cur, hu, -, -, hcap, -⟩ := hR5.lay (by rw [HL0.out]; omega)
    subst hu
    have HE : Hid (Bts w5 (.slice (some ⟨q, 0, none⟩) M.length cap) M ∧ M.length ≤ cap) := ⟨Row8.bts hR5 HB0.out, hcap⟩
    clear hy hR5 hcap HM hs5
    go_wp2
    go_ret
    exact ⟨⟨_, _, rfl, HE.out.1, HE.out.2⟩, hB5⟩

/-- what spec.DrawDecodeNode draws -/
def ddN0 (zs : List Int) : List Int := nodL (dnV zs (st0 zs)).1 (dnV zs (st0 zs)).2
def ddN (zs : List Int) : List Int := if nxV zs ((dnQ zs (st0 zs)).2) 2 = 0 then spD zs (nxS zs ((dnQ zs (st0 zs)).2)) (ddN0 zs) else ddN0 zs
theorem ddN0_len (zs : List Int) : (ddN0 zs).length = 128 := nodL_length (dnV_ok zs _)
theorem ddN0_byt (zs : List Int) : Byt (ddN0 zs) := nodL_byt (dnV_ok zs _)
theorem ddN_byt (zs : List Int) : Byt (ddN zs) := by
  unfold ddN
  split
  · exact spD_byt zs _ (ddN0_byt zs)
  · exact ddN0_byt zs
theorem ddN_len (zs : List Int) : 127 ≤ (ddN zs).length ∧ (ddN zs).length ≤ 129 := by
  unfold ddN
  split
  · exact spD_len zs _ (ddN0_len zs)
  · have := ddN0_len zs; omega

set_option maxRecDepth 100000 in
set_option maxHeartbeats 4000000 in
theorem drawDecN_x (a : Option Addr) (c : Nat) (zs : List Int) (w : World) (hv : Bts w (.slice a zs.length c) zs) (hl : zs.length ≤ 1048576) :
    Calls Tryz.prog 5 #[.slice a zs.length c] w fun e w' => (∃ a c, e = .returned (.slice a (ddN zs).length c) ∧ Bts w' (.slice a (ddN zs).length c) (ddN zs) ∧ (ddN zs).length ≤ c) ∧ Below w.heap.size w w' := by
  have HM : Hid (ddN zs = if nxV zs ((dnQ zs (st0 zs)).2) 2 = 0 then spD zs (nxS zs ((dnQ zs (st0 zs)).2)) (ddN0 zs) else ddN0 zs) := rfl
  have HM0 : Hid (nodL (dnV zs (st0 zs)).1 (dnV zs (st0 zs)).2 = ddN0 zs) := rfl
  have HL0 : Hid ((ddN0 zs).length = 128) := ddN0_len zs
  have HB0 : Hid (Byt (ddN0 zs)) := ddN0_byt zs
  have HV : Hid _ := hv
  obtain ⟨p0, HP0⟩ : ∃ p0, Hid (st0 zs = p0) := ⟨_, rfl⟩
  have HOK : Hid (nodeOK (dnV zs (st0 zs)).1 (dnV zs (st0 zs)).2) := dnV_ok zs _
  rw [HP0.out] at HM HM0 HOK
  obtain ⟨M, HMM⟩ : ∃ M, Hid (ddN zs = M) := ⟨_, rfl⟩
  rw [HMM.out] at HM ⊢
  clear HMM
  generalize ddN0 zs = M0 at *
  go_enter Tryz.func5, Tryz.ntmps5
  go_wp2_with fail
  refine (l1Begin_x a c zs _ hv hl).mono ?_
  rintro e w1 ⟨rfl, hb1⟩
  have hs2 := src_new hv hl hb1 56
  rw [HP0.out] at hs2
  have hB2 := hb1.trans ((belowA w1 (.cells #[.slice a zs.length c, .int .i64 0, .int .u64 (bgN zs zs.length)] 56)).mono hb1.size)
  have HG : Hid (w.heap.size ≤ w1.heap.size) := hb1.size
  clear hb1
  go_wp2_with fail
  generalize w1.alloc (.cells #[.slice a zs.length c, .int .i64 0, .int .u64 (bgN zs zs.length)] 56) = W2 at *
  obtain ⟨g, HGG⟩ : ∃ g, Hid (w1.heap.size = g) := ⟨_, rfl⟩
  rw [HGG.out] at hs2 HG ⊢
  refine (l2DrawNode_x w.heap.size g a c zs p0 _ hs2).mono ?_
  rintro e w3 ⟨⟨va, vc, rfl, hr3⟩, hs3, hf3⟩
  have hB3 : Below w.heap.size w w3 := hB2.trans (hf3.below hB2.size (fun k hk => by have := HG.out; omega))
  clear hs2 hB2 hf3
  generalize dnV zs p0 = V at *
  generalize dnQ zs p0 = Q at *
  go_wp2_with fail
  refine (specEncN_yes V.1 va vc V.2 _ hr3 HOK.out).mono ?_
  rintro e w4 ⟨u4, rfl, hR4, hb4⟩
  rw [HM0.out] at hR4
  have hs4 := hs3.below hb4
  have hB4 := hB3.trans (hb4.mono hB3.size)
  have hg4 : g < w3.heap.size := hs3.lt
  clear hs3 hr3 hb4 hB3
  go_wp2_with fail
  refine (l1Next_x w.heap.size g a c zs _ 2 (by decide) (by decide) _ hs4).mono ?_
  rintro e w5 ⟨rfl, hs5, hf5⟩
  have hB5 : Below w.heap.size w w5 := hB4.trans (hf5.below hB4.size (fun k hk => by have := HG.out; omega))
  have hR5 : Row8 w3.heap.size w5 u4 M0 := hR4.frm hf5 hg4
  clear hR4 hs4 hf5 hB4
  generalize nxV zs (Q.2) 2 = y2 at *
  by_cases hy : y2 = 0
  · have hyb : (y2 == 0) = true := by simpa using hy
    rw [if_pos hy] at HM
    obtain ⟨ua, uc, hua⟩ := hR5.shape
    subst hua
    have hBt5 := Row8.bts hR5 HB0.out
    have HSP : Hid _ := l2Spoil_x w.heap.size g a c zs (nxS zs (Q.2)) (.slice ua M0.length uc) M0 HB0.out HL0.out w5 hBt5 hs5
    rw [← HM.out] at HSP
    clear hy hR5 hBt5 hs5 HM
    go_wp2_with fail
    refine Calls.mono HSP.out ?_
    rintro e w6 ⟨⟨xa, xc, rfl, hB6, hc6⟩, hf6⟩
    have hBw : Below w.heap.size w w6 := hB5.trans (hf6.below hB5.size (fun k hk => by have := HG.out; omega))
    have HE : Hid (Bts w6 (.slice xa M.length xc) M ∧ M.length ≤ xc) := ⟨hB6, hc6⟩
    clear hB6 hc6 hf6 HSP
    go_wp2
    go_ret
    exact ⟨⟨xa, xc, rfl, HE.out.1, HE.out.2⟩, hBw⟩
  · have hyb : (y2 == 0) = false := by simpa using hy
    rw [if_neg hy] at HM
    have hMM : M = M0 := HM.out
    subst hMM
    obtain ⟨q, cap, cur, hu, -, -, hcap, -⟩ := hR5.lay (by rw [HL0.out]; omega)
    subst hu
    have HE : Hid (Bts w5 (.slice (some ⟨q, 0, none⟩) M.length cap) M ∧ M.length ≤ cap) := ⟨Row8.bts hR5 HB0.out, hcap⟩
    clear hy hR5 hcap HM hs5
    go_wp2
    go_ret
    exact ⟨⟨_, _, rfl, HE.out.1, HE.out.2⟩, hB5⟩
end Go.Proofs.YtfbjagjgofdheaaGreatDoor

namespace Go.Proofs.YtfbjagjgofdheaaGreatDoor
open Go.RowKit
set_option linter.unusedVariables false

set_option maxHeartbeats 2000000 in
theorem lRuns_any (a a' : Option Addr) (c c' : Nat) (rs : List R3) (w : World) (hv : RRead w (.slice a rs.length c) rs) (hv' : RRead w (.slice a' rs.length c') rs) (hn : rs.length ≤ 1048576) :
    Calls Tryz.prog 13 #[.slice a rs.length c, .slice a' rs.length c'] w fun e w' => e = .returned (.bool true) ∧ Below w.heap.size w w' := by
  go_enter Tryz.func13, Tryz.ntmps13
  go_wp2
  go_loopw [5] (fun i wr => ∃ j : Nat, j ≤ rs.length ∧ i = .int .i64 j ∧ Below w.heap.size w wr) (fun i _ => rs.length - (intOf i).toNat)
  case atStart => exact ⟨0, Nat.zero_le _, rfl, Below.refl _ _⟩
  case round =>
    obtain ⟨j, hj, rfl, hb⟩ := hrel
    by_cases hlt : j < rs.length
    · have hi : (j : Int) < (rs.length : Int) := by omega
      obtain ⟨_, _, he, hc⟩ := hv
      simp only [Value.slice.injEq, true_and] at he
      obtain ⟨rfl, rfl⟩ := he
      obtain ⟨_, _, he, hc'⟩ := hv'
      simp only [Value.slice.injEq, true_and] at he
      obtain ⟨rfl, rfl⟩ := he
      obtain ⟨b, off, rfl, hcell⟩ := hc (by omega)
      obtain ⟨b', off', rfl, hcell'⟩ := hc' (by omega)
      obtain ⟨g1, g2, g3⟩ := hcell j hlt
      obtain ⟨k1, k2, k3⟩ := hcell' j hlt
      have hbw : b < w.heap.size := World.block_lt_of_cell? _ _ g1
      have hbw' : b' < w.heap.size := World.block_lt_of_cell? _ _ k1
      rw [← hb.cell (p := ⟨b, off + j * 3, none⟩) hbw] at g1
      rw [← hb.cell (p := ⟨b, off + j * 3 + 1, none⟩) hbw] at g2
      rw [← hb.cell (p := ⟨b, off + j * 3 + 2, none⟩) hbw] at g3
      rw [← hb.cell (p := ⟨b', off' + j * 3, none⟩) hbw'] at k1
      rw [← hb.cell (p := ⟨b', off' + j * 3 + 1, none⟩) hbw'] at k2
      rw [← hb.cell (p := ⟨b', off' + j * 3 + 2, none⟩) hbw'] at k3
      generalize rs.getD j (0, 0, 0) = r at g1 g2 g3 k1 k2 k3
      obtain ⟨x, y, z⟩ := r
      simp only at g1 g2 g3 k1 k2 k3
      clear hc hc' hcell hcell'
      go_wp2
      go_region_held3 (fun w' => w'.cell? ⟨b, off + j * 3, none⟩ = some (.int .i64 x) ∧ w'.cell? ⟨b, off + j * 3 + 1, none⟩ = some (.int .i64 y) ∧ w'.cell? ⟨b, off + j * 3 + 2, none⟩ = some (.int .i64 z) ∧ w'.cell? ⟨b', off' + j * 3, none⟩ = some (.int .i64 x) ∧ w'.cell? ⟨b', off' + j * 3 + 1, none⟩ = some (.int .i64 y) ∧ w'.cell? ⟨b', off' + j * 3 + 2, none⟩ = some (.int .i64 z)) (first | go_keep | assumption | exact ⟨g1, g2, g3, k1, k2, k3⟩) (fail)
      go_wp2
      go_roundw
      case rel => exact ⟨j + 1, by omega, by go_num, hb.drew⟩
      case measure => simp [intOf]; omega
    · have hi : ¬ (j : Int) < (rs.length : Int) := by omega
      go_wp2
      go_ret
      exact ⟨rfl, hb⟩

theorem tl_self (s : ByteArray) : (s.toList == s.toList) = true := by simp
set_option maxRecDepth 100000 in
set_option maxHeartbeats 2000000 in
theorem lEntries_any (k : Int) (a a' : Option Addr) (c c' : Nat) (rs : List E3) (w : World) (hv : NRead w (.slice a rs.length c) rs) (hv' : NRead w (.slice a' rs.length c') rs) (hn : rs.length ≤ 1048576) :
    Calls Tryz.prog 8 #[.agg #[.int .i64 k, .slice a rs.length c], .agg #[.int .i64 k, .slice a' rs.length c']] w fun e w' => e = .returned (.bool true) ∧ Below w.heap.size w w' := by
  have hb0 : Below w.heap.size w ((w.alloc (.cells #[.int .i64 k, .slice a rs.length c] 25)).alloc (.cells #[.int .i64 k, .slice a' rs.length c'] 25)) := ((Below.refl _ _).alloc (Nat.le_refl _) _).alloc (by simp) _
  have hx := heap_alloc_new w (.cells #[.int .i64 k, .slice a rs.length c] 25)
  have hy := heap_alloc_new (w.alloc (.cells #[.int .i64 k, .slice a rs.length c] 25)) (.cells #[.int .i64 k, .slice a' rs.length c'] 25)
  have hx2 := ((belowA (w.alloc (.cells #[.int .i64 k, .slice a rs.length c] 25)) (.cells #[.int .i64 k, .slice a' rs.length c'] 25)).block w.heap.size (by simp)).trans hx
  have hsz : (w.alloc (.cells #[.int .i64 k, .slice a rs.length c] 25)).heap.size = w.heap.size + 1 := by simp
  rw [hsz] at hy
  clear hx hsz
  have hkk : (k != k) = false := by simp
  have hll : ((rs.length : Int) != (rs.length : Int)) = false := by simp
  go_enter Tryz.func8, Tryz.ntmps8
  go_wp2_with fail
  generalize ((w.alloc (.cells #[.int .i64 k, .slice a rs.length c] 25)).alloc (.cells #[.int .i64 k, .slice a' rs.length c'] 25)) = W0 at *
  obtain ⟨q0, q1, -, -⟩ := row2 hx2
  obtain ⟨r0, r1, -, -⟩ := row2 hy
  have hs0 : w.heap.size + 1 < W0.heap.size := (Array.getElem?_eq_some_iff.1 hy).1
  have HX : Hid _ := hx2
  have HY : Hid _ := hy
  clear hx2 hy
  go_wp2
  clear q0 q1 r0 r1
  go_loopw [5] (fun i wr => ∃ j : Nat, j ≤ rs.length ∧ i = .int .i64 j ∧ Below W0.heap.size W0 wr) (fun i _ => rs.length - (intOf i).toNat)
  case atStart => exact ⟨0, Nat.zero_le _, rfl, Below.refl _ _⟩
  case round =>
    obtain ⟨j, hj, rfl, hbr⟩ := hrel
    have hb := hb0.trans (hbr.mono hb0.size)
    obtain ⟨q0, q1, -, -⟩ := row2 ((hbr.block _ (by omega)).trans HX.out)
    obtain ⟨r0, r1, -, -⟩ := row2 ((hbr.block _ hs0).trans HY.out)
    by_cases hlt : j < rs.length
    · have hi : (j : Int) < (rs.length : Int) := by omega
      obtain ⟨_, _, he, hc⟩ := hv
      simp only [Value.slice.injEq, true_and] at he
      obtain ⟨rfl, rfl⟩ := he
      obtain ⟨_, _, he, hc'⟩ := hv'
      simp only [Value.slice.injEq, true_and] at he
      obtain ⟨rfl, rfl⟩ := he
      obtain ⟨b, off, rfl, hcell⟩ := hc (by omega)
      obtain ⟨b', off', rfl, hcell'⟩ := hc' (by omega)
      obtain ⟨g1, g2, g3⟩ := hcell j hlt
      obtain ⟨k1, k2, k3⟩ := hcell' j hlt
      have hbw : b < w.heap.size := World.block_lt_of_cell? _ _ g1
      have hbw' : b' < w.heap.size := World.block_lt_of_cell? _ _ k1
      rw [← hb.cell (p := ⟨b, off + j * 3, none⟩) hbw] at g1
      rw [← hb.cell (p := ⟨b, off + j * 3 + 1, none⟩) hbw] at g2
      rw [← hb.cell (p := ⟨b, off + j * 3 + 2, none⟩) hbw] at g3
      rw [← hb.cell (p := ⟨b', off' + j * 3, none⟩) hbw'] at k1
      rw [← hb.cell (p := ⟨b', off' + j * 3 + 1, none⟩) hbw'] at k2
      rw [← hb.cell (p := ⟨b', off' + j * 3 + 2, none⟩) hbw'] at k3
      generalize rs.getD j e0 = r at g1 g2 g3 k1 k2 k3
      obtain ⟨x, y, z⟩ := r
      simp only at g1 g2 g3 k1 k2 k3
      have tx := tl_self x
      have ty := tl_self y
      have HBR := hbr.drew
      clear hc hc' hcell hcell'
      go_wp2_with fail
      go_region_held3 (fun w' => w'.cell? ⟨w.heap.size, 1, none⟩ = some (.slice (some ⟨b, off, none⟩) rs.length c) ∧ w'.cell? ⟨w.heap.size + 1, 1, none⟩ = some (.slice (some ⟨b', off', none⟩) rs.length c') ∧ w'.cell? ⟨b, off + j * 3, none⟩ = some (.string x) ∧ w'.cell? ⟨b, off + j * 3 + 1, none⟩ = some (.string y) ∧ w'.cell? ⟨b, off + j * 3 + 2, none⟩ = some (.int .i64 z) ∧ w'.cell? ⟨b', off' + j * 3, none⟩ = some (.string x) ∧ w'.cell? ⟨b', off' + j * 3 + 1, none⟩ = some (.string y) ∧ w'.cell? ⟨b', off' + j * 3 + 2, none⟩ = some (.int .i64 z)) (first | go_keep | assumption | exact ⟨q1, r1, g1, g2, g3, k1, k2, k3⟩) (fail)
      clear q0 q1 r0 r1 g1 g2 g3 k1 k2 k3
      go_wp2
      go_roundw
      case rel => exact ⟨j + 1, by omega, by go_num, HBR⟩
      case measure => simp [intOf]; omega
    · have hi : ¬ (j : Int) < (rs.length : Int) := by omega
      go_wp2
      go_ret
      exact ⟨rfl, hb⟩
end Go.Proofs.YtfbjagjgofdheaaGreatDoor

namespace Go.Proofs.YtfbjagjgofdheaaGreatDoor
open Go.RowKit
set_option linter.unusedVariables false

/-- the node that spec.DecodeNode told: none, or one that the block D is of -/
def NCase (D : List Int) (x kd : Int) (es : List E3) : Prop := (x ≠ 0 ∧ kd = 0 ∧ es = []) ∨ (x = 0 ∧ nodeOK kd es ∧ D = nodL kd es)
theorem specDecN' (a : Option Addr) (c : Nat) (D : List Int) (w : World) (hv : Bts w (.slice a D.length c) D) (hl : D.length ≤ 1048576) (hc : D.length ≤ c) :
    Calls Tryz.prog 4 #[.slice a D.length c] w fun e w' => (∃ x kd es va vc, e = .returned (.tuple #[.agg #[.int .i64 kd, .slice va es.length vc], .int .i64 x]) ∧ NRead w' (.slice va es.length vc) es ∧ NCase D x kd es ∧ (x ≠ 0 → va = none ∧ vc = 0)) ∧ Below w.heap.size w w' := by
  refine (specDecN a c D w hv hl hc).mono ?_
  rintro e w' ⟨⟨x, rfl, hx⟩ | ⟨kd, rs, va, vc, rfl, hr, hok, hD⟩, hb⟩
  · exact ⟨⟨x, 0, [], none, 0, rfl, NRead.empty _ _ _, .inl ⟨hx, rfl, rfl⟩, fun _ => ⟨rfl, rfl⟩⟩, hb⟩
  · exact ⟨⟨0, kd, rs, va, vc, rfl, hr, .inr ⟨rfl, hok, hD⟩, fun h => absurd rfl h⟩, hb⟩
def SCase (D : List Int) (x N g nx tb : Int) (rs : List R2) : Prop := (x ≠ 0 ∧ N = 0 ∧ g = 0 ∧ nx = 0 ∧ tb = 0 ∧ rs = []) ∨ (x = 0 ∧ spOK N g nx tb rs ∧ D = supL N g nx tb rs)
theorem specDecS' (a : Option Addr) (c : Nat) (D : List Int) (w : World) (hv : Bts w (.slice a D.length c) D) (hl : D.length ≤ 1048576) (hc : D.length ≤ c) :
    Calls Tryz.prog 14 #[.slice a D.length c] w fun e w' => (∃ x N g nx tb rs va vc, e = .returned (.tuple #[.agg #[.int .i64 N, .int .i64 g, .int .i64 nx, .int .i64 tb, .slice va rs.length vc], .int .i64 x]) ∧ TRead w' (.slice va rs.length vc) rs ∧ SCase D x N g nx tb rs ∧ (x ≠ 0 → va = none ∧ vc = 0)) ∧ Below w.heap.size w w' := by
  refine (specDecS a c D w hv hl hc).mono ?_
  rintro e w' ⟨⟨x, rfl, hx⟩ | ⟨N, g, nx, tb, rs, va, vc, rfl, hr, hok, hD⟩, hb⟩
  · exact ⟨⟨x, 0, 0, 0, 0, [], none, 0, rfl, ⟨none, 0, rfl, fun h => by simp at h⟩, .inl ⟨hx, rfl, rfl, rfl, rfl, rfl⟩, fun _ => ⟨rfl, rfl⟩⟩, hb⟩
  · exact ⟨⟨0, N, g, nx, tb, rs, va, vc, rfl, hr, .inr ⟨rfl, hok, hD⟩, fun h => absurd rfl h⟩, hb⟩
theorem specDecT' (a : Option Addr) (c : Nat) (D : List Int) (w : World) (hv : Bts w (.slice a D.length c) D) (hl : D.length ≤ 1048576) (hc : D.length ≤ c) :
    Calls Tryz.prog 9 #[.slice a D.length c] w fun e w' => (∃ x nx rs va vc, e = .returned (.tuple #[.agg #[.int .i64 nx, .slice va rs.length vc], .int .i64 x]) ∧ RRead w' (.slice va rs.length vc) rs ∧ tbOK nx rs ∧ (x = 0 → D = tabL nx rs)) ∧ Below w.heap.size w w' := by
  refine (specDecT a c D w hv hl hc).mono ?_
  rintro e w' ⟨⟨x, rfl, hx⟩ | ⟨nx, rs, va, vc, rfl, hr, hok, hD⟩, hb⟩
  · exact ⟨⟨x, 0, [], none, 0, rfl, RRead.empty _ _ _, ⟨.inl rfl, by simp, ⟨fun i hi => by simp at hi, fun i hi => by simp at hi⟩⟩, fun h => absurd h hx⟩, hb⟩
  · exact ⟨⟨0, nx, rs, va, vc, rfl, hr, hok, fun _ => hD⟩, hb⟩
/-- a block of the program's: sealed bytes -/
structure Blk (w : World) (v : Value) (L : List Int) : Prop where
  form : ∃ g, v = .slice (some ⟨g, 0, none⟩) 128 128 ∧ Arr w g L
  sld : Sld L
  byt : Byt L
theorem Blk.below {w w' : World} {v : Value} {L : List Int} (h : Blk w v L) (hb : Below w.heap.size w w') : Blk w' v L := by
  obtain ⟨g, e, hA⟩ := h.form
  exact ⟨⟨g, e, hA.below hb⟩, h.sld, h.byt⟩
theorem Blk.bts {w : World} {v : Value} {L : List Int} (h : Blk w v L) : Bts w v L ∧ L.length = 128 := by
  obtain ⟨g, rfl, hA⟩ := h.form
  exact ⟨hA.2.bts, hA.1⟩
/-- what the encoder told: a block where the decoder told a value, else the fault of form -/
def ECase (w : World) (x : Int) (v : Value) (nc : Int) (L : List Int) : Prop := (x ≠ 0 ∧ nc = 5) ∨ (x = 0 ∧ nc = 0 ∧ Blk w v L)
theorem ECase.below {w w' : World} {x nc : Int} {v : Value} {L : List Int} (h : ECase w x v nc L) (hb : Below w.heap.size w w') : ECase w' x v nc L := by
  rcases h with h | ⟨h1, h2, h3⟩
  · exact .inl h
  · exact .inr ⟨h1, h2, h3.below hb⟩
theorem nodL_sld {k : Int} {es : List E3} (h : nodeOK k es) : Sld (nodL k es) := sealL_sld _ (by rw [nodQ_length h _ (Nat.le_refl _)]; have := h.kind.2; omega)
theorem supL_sld {N g nx tb : Int} {rs : List R2} (h : spOK N g nx tb rs) : Sld (supL N g nx tb rs) := sealL_sld _ (by rw [supQ_length]; have := h.2.1; omega)
theorem tabL_sld {nx : Int} {rs : List R3} (h : tbOK nx rs) : Sld (tabL nx rs) := sealL_sld _ (by rw [tabP_length]; have := h.2.1; omega)
theorem implEncN' {D : List Int} {x kd : Int} {es : List E3} (hN : NCase D x kd es) {va : Option Addr} {vc : Nat} (hva : x ≠ 0 → va = none ∧ vc = 0) {w : World} {a s k n : Addr} (h5 : Five w a s k n) (hr : NRead w (.slice va es.length vc) es) :
    Calls Tryz.prog 6 #[.agg #[.int .i64 kd, .slice va es.length vc]] w fun e w' => (∃ va vl vc nc, e = .returned (.tuple #[.slice va vl vc, .int .i64 nc]) ∧ ECase w' x (.slice va vl vc) nc D) ∧ Below w.heap.size w w' := by
  rcases hN with ⟨hx, rfl, rfl⟩ | ⟨rfl, hok, hD⟩
  · obtain ⟨rfl, rfl⟩ := hva hx
    refine (implEncN_none h5).mono ?_
    rintro e w' ⟨rfl, hb⟩
    exact ⟨⟨none, 0, 0, 5, rfl, .inl ⟨hx, rfl⟩⟩, hb⟩
  · refine (implEncN_ok hok va vc w hr).mono ?_
    rintro e w' ⟨g, rfl, hg, hA, hb⟩
    exact ⟨⟨some ⟨g, 0, none⟩, 128, 128, 0, rfl, .inr ⟨rfl, rfl, ⟨⟨g, rfl, by rw [hD]; exact hA⟩, by rw [hD]; exact nodL_sld hok, by rw [hD]; exact nodL_byt hok⟩⟩⟩, hb⟩
theorem implEncS' {D : List Int} {x N g nx tb : Int} {rs : List R2} (hN : SCase D x N g nx tb rs) {va : Option Addr} {vc : Nat} (hva : x ≠ 0 → va = none ∧ vc = 0) {w : World} {a s k n : Addr} (h5 : Five w a s k n) (hr : TRead w (.slice va rs.length vc) rs) :
    Calls Tryz.prog 16 #[.agg #[.int .i64 N, .int .i64 g, .int .i64 nx, .int .i64 tb, .slice va rs.length vc]] w fun e w' => (∃ va vl vc nc, e = .returned (.tuple #[.slice va vl vc, .int .i64 nc]) ∧ ECase w' x (.slice va vl vc) nc D) ∧ Below w.heap.size w w' := by
  rcases hN with ⟨hx, rfl, rfl, rfl, rfl, rfl⟩ | ⟨rfl, hok, hD⟩
  · obtain ⟨rfl, rfl⟩ := hva hx
    refine (implEncS_none h5).mono ?_
    rintro e w' ⟨rfl, hb⟩
    exact ⟨⟨none, 0, 0, 5, rfl, .inl ⟨hx, rfl⟩⟩, hb⟩
  · refine (implEncS_ok hok va vc w hr).mono ?_
    rintro e w' ⟨g, rfl, hg, hA, hb⟩
    exact ⟨⟨some ⟨g, 0, none⟩, 128, 128, 0, rfl, .inr ⟨rfl, rfl, ⟨⟨g, rfl, by rw [hD]; exact hA⟩, by rw [hD]; exact supL_sld hok, by rw [hD]; exact (supQ_byt _ _ _ _ _ hok.2.1.2 _).seal⟩⟩⟩, hb⟩
theorem implEncT' {nx : Int} {rs : List R3} (hok : tbOK nx rs) {va : Option Addr} {vc : Nat} {w : World} (hr : RRead w (.slice va rs.length vc) rs) :
    Calls Tryz.prog 11 #[.agg #[.int .i64 nx, .slice va rs.length vc]] w fun e w' => (∃ g, e = .returned (.tuple #[.slice (some ⟨g, 0, none⟩) 128 128, .int .i64 0]) ∧ Blk w' (.slice (some ⟨g, 0, none⟩) 128 128) (tabL nx rs)) ∧ Below w.heap.size w w' := by
  refine (implEncT_ok hok va vc w hr).mono ?_
  rintro e w' ⟨g, rfl, hg, hA, hb⟩
  exact ⟨⟨g, rfl, ⟨⟨g, rfl, hA⟩, tabL_sld hok, (tabP_byt _ _ hok.2.1 _).seal⟩⟩, hb⟩
theorem implDecN' {kd : Int} {es : List E3} (hok : nodeOK kd es) {g : Nat} {w : World} (hA : Arr w g (nodL kd es)) :
    Calls Tryz.prog 7 #[.slice (some ⟨g, 0, none⟩) 128 128] w fun e w' => (∃ va vc, e = .returned (.tuple #[.agg #[.int .i64 kd, .slice va es.length vc], .int .i64 0]) ∧ NRead w' (.slice va es.length vc) es) ∧ Below w.heap.size w w' := by
  rcases hok.kind.1 with rfl | rfl
  · exact implDecL_ok hok g 0 128 w hA.2.bts
  · exact implDecI_ok hok g 0 128 w hA.2.bts
/-- one byte of a sealed block changed -/
theorem turned_not {L : List Int} (hl : L.length = 128) (hb : Byt L) (hs : Sld L) (p : Nat) (hp : p < 128) {x : Int} (hx : 0 ≤ x ∧ x < 256) (hne : x ≠ L.getD p 0) : ¬ putL (L.set p x) 124 (crcOf ((L.set p x).take 124)) 4 = L.set p x := by
  refine turned (zs := L) (zs' := L.set p x) hl (by rw [List.length_set]; exact hl) hb (byt_set hb p hx) p hp (fun i hi => ?_) ?_ hs
  · rw [List.getD_eq_getElem?_getD, List.getElem?_set, if_neg (Ne.symm hi), ← List.getD_eq_getElem?_getD]
  · rw [List.getD_eq_getElem?_getD, List.getElem?_set, if_pos rfl, if_pos (by omega)]
    exact hne
end Go.Proofs.YtfbjagjgofdheaaGreatDoor

namespace Go.Proofs.YtfbjagjgofdheaaGreatDoor
open Go.RowKit

section
variable {P : Program} {ops : Array Oper} {Q : Exit → Act → World → Prop} {md : Region.Mode} {S S' : World → Prop}

/-- in the midst of a region: from here on more is held -/
theorem wpAnyH_sub (hS : ∀ w, S' w → S w) : ∀ (fuel : Nat) (listed : Array Bool) (a : Act) (w : World), wpAnyH P md ops Q S' fuel listed a w → wpAnyH P md ops Q S fuel listed a w
  | 0, _, _, _, h => h
  | fuel + 1, _, _, _, h => ⟨h.1, fun i hi => wpOp_mono (fun a' w' h' => ⟨hS _ h'.1, wpAnyH_sub hS fuel _ a' w' h'.2⟩) (h.2 i hi)⟩

/-- take number i first -/
theorem wpAnyH_tk {i : Nat} {oi : Oper} (t : Nat) (v : Value) {fuel : Nat} {listed : Array Bool} {a : Act} {w : World} (hi : ops[i]? = some oi)
    (hs : Region.noSelect ops = true) (hf : Region.free md ops listed i = true) (hr : (Region.ready md ops listed).contains i = true)
    (hQ : ∀ c a w, Q (.panic c) (a.put oi.dst v) w → Q (.panic c) a w) (hw : Region.wanted oi (yielded ops a.tmps) = true) (ht : oi.dst = some t) (hS : S w) (hy : ∀ w, S w → (execOp a.eval oi).run P w = .ok (.value v) w)
    (h : wpAnyH P md ops Q S fuel (listed.setIfInBounds i true) (a.put (some t) v) w) : wpAnyH P md ops Q S (fuel + 1) listed a w :=
  wpAnyH_take hi hs hf hr hQ (.inl ⟨hw, hy⟩) hS (by rw [ht]; exact h)

/-- take number i first: its guard does not want it -/
theorem wpAnyH_no {i : Nat} {oi : Oper} (t : Nat) {fuel : Nat} {listed : Array Bool} {a : Act} {w : World} (hi : ops[i]? = some oi)
    (hs : Region.noSelect ops = true) (hf : Region.free md ops listed i = true) (hr : (Region.ready md ops listed).contains i = true)
    (hQ : ∀ c a w, Q (.panic c) (a.put oi.dst undef) w → Q (.panic c) a w) (hw : Region.wanted oi (yielded ops a.tmps) = false) (ht : oi.dst = some t) (hS : S w)
    (h : wpAnyH P md ops Q S fuel (listed.setIfInBounds i true) (a.put (some t) undef) w) : wpAnyH P md ops Q S (fuel + 1) listed a w :=
  wpAnyH_take hi hs hf hr hQ (.inr ⟨hw, rfl⟩) hS (by rw [ht]; exact h)

/-- one alone may come up: it is carried out -/
theorem wpAnyH_one {i : Nat} {oi : Oper} {fuel : Nat} {listed : Array Bool} {a : Act} {w : World} (hr : Region.ready md ops listed = [i]) (hi : ops[i]? = some oi) (hw : Region.wanted oi (yielded ops a.tmps) = true)
    (h : ∀ K' : Act → World → Prop, (∀ a' w', S w' → wpAnyH P md ops Q S fuel (listed.setIfInBounds i true) a' w' → K' a' w') → oi.wp P a w K' Q) : wpAnyH P md ops Q S (fuel + 1) listed a w := by
  refine ⟨fun h0 => by simp [hr] at h0, fun j hj => ?_⟩
  rw [hr] at hj
  simp only [List.mem_singleton] at hj
  subst hj
  unfold wpOp
  simp only [hi]
  rw [if_pos hw]
  exact .inl (h _ fun _ _ h1 h2 => ⟨h1, h2⟩)
end
end Go.Proofs.YtfbjagjgofdheaaGreatDoor

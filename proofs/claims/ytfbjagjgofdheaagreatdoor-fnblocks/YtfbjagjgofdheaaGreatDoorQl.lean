import Derived.Test.YtfbjagjgofdheaaGreatDoorLg
import Derived.Test.YtfbjagjgofdheaaGreatDoorInv
namespace Go.Proofs.YtfbjagjgofdheaaGreatDoor
open Go.RowKit
set_option linter.unusedVariables false

/-- the spoiled copy under way -/
structure Sp (w : World) (base g : Nat) (a : Option Addr) (c : Nat) (zs : List Int) (q cap : Nat) (bs : List Int) (p : Nat × Int) (W : World) : Prop where
  row : Row8 w.heap.size W (.slice (some ⟨q, 0, none⟩) 128 cap) bs
  len : bs.length = 128
  src : SrcX base g a c zs p W
  frm : Frm (· = g) w W
  glt : g < w.heap.size
  hq : w.heap.size ≤ q
section
variable {w : World} {base g : Nat} {a : Option Addr} {c : Nat} {zs : List Int} {q cap : Nat} {bs : List Int} {p p' : Nat × Int} {W W' : World}
theorem Sp.call (h : Sp w base g a c zs q cap bs p W) (hs : SrcX base g a c zs p' W') (hf : Frm (· = g) W W') : Sp w base g a c zs q cap bs p' W' := ⟨h.row.frm hf h.glt, h.len, hs, h.frm.trans hf, h.glt, h.hq⟩
theorem Sp.put (h : Sp w base g a c zs q cap bs p W) (j : Nat) (hj : j < 128) (x : Int) : Sp w base g a c zs q cap (bs.set j x) p (W.setCell ⟨q, j, none⟩ (.int .u8 x)) := by
  have h1 := h.glt
  have h2 := h.hq
  have h3 := h.src.lo
  have hf : Frm (fun b => b = q) W (W.setCell ⟨q, j, none⟩ (.int .u8 x)) := ⟨rfl, rfl, rfl, by simp [World.setCell], fun k _ hn => Below.heap_setCell _ _ _ _ hn⟩
  have hfw := h.frm
  exact ⟨h.row.put h.len.symm j (by rw [h.len]; exact hj) x, by rw [List.length_set]; exact h.len, h.src.frm hf (by show ¬ g = q; omega) (fun b hb => by omega), ⟨hf.os.trans hfw.os, hf.tape.trans hfw.tape, hf.output.trans hfw.output, Nat.le_trans hfw.size hf.size, fun i hi hn => (hf.block i (by have := hfw.size; omega) (by show ¬ i = q; omega)).trans (hfw.block i hi hn)⟩, h1, h2⟩
end

set_option maxRecDepth 100000 in
set_option maxHeartbeats 16000000 in
theorem l2Spoil_x (base g : Nat) (a : Option Addr) (c : Nat) (zs : List Int) (p : Nat × Int) (u : Value) (bs : List Int) (hb : Byt bs) (hl : bs.length = 128) (w : World) (hu : Bts w u bs) (hs : SrcX base g a c zs p w) :
    Calls Tryz.prog 27 #[.pointer (some ⟨g, 0, none⟩), u] w fun e w' => (∃ a c, e = .returned (.slice a (spD zs p bs).length c) ∧ Bts w' (.slice a (spD zs p bs).length c) (spD zs p bs) ∧ (spD zs p bs).length ≤ c) ∧ Frm (· = g) w w' := by
  have hgl := hs.lt
  have hA := spA_in zs p
  have hBI := spB_in zs p hb
  have HO : Hid (spO zs p bs = bs.set (spA zs p).toNat (spB zs p bs)) := rfl
  have HD : Hid (spD zs p bs = if nxV zs p 8 = 0 then bs.take 127 else if nxV zs p 8 = 1 then bs ++ [0] else if 4 ≤ nxV zs p 8 then sealL ((spO zs p bs).take 124) else spO zs p bs) := rfl
  have HAA : Hid (spA zs p = if nxV zs (nxS zs (nxS zs p)) 2 = 0 then nxV zs (nxS zs (nxS zs (nxS zs p))) 34 else nxV zs (nxS zs p) 128) := rfl
  have HPP : Hid (spP zs p = if nxV zs (nxS zs (nxS zs p)) 2 = 0 then nxS zs (nxS zs (nxS zs (nxS zs p))) else nxS zs (nxS zs (nxS zs p))) := rfl
  have HBB : Hid (spB zs p bs = if nxV zs (spP zs p) 2 = 0 then bits .xor .u8 (bs.getD (spA zs p).toNat 0) (2 ^ (nxV zs (nxS zs (spP zs p)) 8).toNat % 256) else nxV zs (nxS zs (spP zs p)) 26) := rfl
  have HOB : Hid (Byt (spO zs p bs)) := spO_byt zs p hb
  have HDB : Hid (Byt (spD zs p bs)) := spD_byt zs p hb
  generalize spD zs p bs = D at *
  generalize spO zs p bs = O at *
  generalize spB zs p bs = bv at *
  obtain ⟨at', hat⟩ : ∃ at' : Nat, spA zs p = at' := ⟨(spA zs p).toNat, by omega⟩
  rw [hat] at HO HAA HBB hA
  rw [Int.toNat_natCast] at HO HBB
  generalize spP zs p = pS at *
  have ha128 : at' < 128 := by omega
  clear hat hA
  have HSR : Hid _ := hs
  clear hs
  go_enter Tryz.func27, Tryz.ntmps27
  go_wp2_with fail
  refine (l1Copy_row u bs _ hu (by omega)).mono ?_
  rintro e w1 ⟨u1, rfl, hR1, hb1⟩
  obtain ⟨q, cap, cur, hu1, hq1, -, hcap, hmx, -⟩ := hR1.lay (by omega)
  rw [hl] at hu1 hcap
  subst hu1
  have hS1 : Sp w base g a c zs q cap bs p w1 := ⟨hR1, hl, HSR.out.below hb1, Frm.of_below hb1, hgl, hq1⟩
  clear hR1 hb1 HSR hu
  go_wp2_with fail
  refine (l1Next_x base g a c zs p 8 (by decide) (by decide) _ hS1.src).mono ?_
  rintro e w2 ⟨rfl, hs2, hf2⟩
  have hS2 := hS1.call hs2 hf2
  have hki := nxV_in zs p (n := 8) (by decide) (by decide)
  clear hS1 hs2 hf2
  generalize nxV zs p 8 = k at *
  by_cases hk0 : k = 0
  · subst hk0
    have hDe : D = bs.take 127 := HD.out
    have hlD : D.length = 127 := by rw [hDe]; simp; omega
    have hR := hS2.row.cut (m := 127) hl.symm (by omega) (by omega)
    have HE : Hid (Bts w2 (.slice (some ⟨q, 0, none⟩) 127 cap) D ∧ Frm (· = g) w w2) := ⟨by rw [hDe]; exact Row8.bts hR (byt_take hb _), hS2.frm⟩
    have HLD : Hid (D.length = 127) := hlD
    have hc127 : (127 : Int) ≤ (cap : Int) := by omega
    clear hDe hlD hR hS2
    go_wp2
    go_ret
    exact ⟨⟨some ⟨q, 0, none⟩, cap, by rw [HLD.out]; rfl, by rw [HLD.out]; exact HE.out.1, by rw [HLD.out]; omega⟩, HE.out.2⟩
  have hk0b : (k == 0) = false := by simpa using hk0
  by_cases hk1 : k = 1
  · subst hk1
    have hDe : D = bs ++ [0] := HD.out
    have hlD : D.length = 129 := by rw [hDe, List.length_append, hl]; rfl
    have hrow := hS2.row
    have hfl : bs.length < 140737488355328 := by omega
    have hsz := hS2.frm.size
    have HS2 : Hid _ := hS2
    have HLD : Hid (D.length = 129) := hlD
    have HDE : Hid (D = bs ++ [0]) := hDe
    clear hDe hlD hS2
    go_wp2_with (first | (at_builtin; refine wpList_append8 rfl _ _ rfl _ hrow rfl rfl hfl hsz ?_; intro v' w3 hown3 hbel3 hsz3 hgr3) | go_in)
    rw [← HDE.out] at hown3
    obtain ⟨q3, cap3, cur3, hv3, hq3, -, hc3, -⟩ := hown3.lay (by rw [HLD.out]; omega)
    subst hv3
    have hF : Frm (· = g) w w3 := by
      have hfw := HS2.out.frm
      exact ⟨hbel3.os.trans hfw.os, hbel3.tape.trans hfw.tape, hbel3.output.trans hfw.output, Nat.le_trans hfw.size hsz3, fun i hi hn => (hbel3.block i hi).trans (hfw.block i hi hn)⟩
    have hBt := Row8.bts hown3 HDB.out
    go_ret
    exact ⟨⟨_, _, rfl, hBt, hc3⟩, hF⟩
  have hk1b : (k == 1) = false := by simpa using hk1
  have HD2 : Hid (D = if 4 ≤ k then sealL (O.take 124) else O) := by rw [Hid, HD.out, if_neg hk0, if_neg hk1]
  clear hk0 hk1 HD
  go_wp2_with fail
  refine (l1Next_x base g a c zs _ 128 (by decide) (by decide) _ hS2.src).mono ?_
  rintro e w3 ⟨rfl, hs3, hf3⟩
  have hS3 := hS2.call hs3 hf3
  clear hS2 hs3 hf3
  generalize nxV zs (nxS zs p) 128 = a0 at *
  go_wp2_with fail
  refine (l1Next_x base g a c zs _ 2 (by decide) (by decide) _ hS3.src).mono ?_
  rintro e w4 ⟨rfl, hs4, hf4⟩
  have hS4 := hS3.call hs4 hf4
  clear hS3 hs4 hf4
  generalize nxV zs (nxS zs (nxS zs p)) 2 = r0 at *
  by_cases hr0 : r0 = 0
  · have hr0b : (r0 == 0) = true := by simpa using hr0
    rw [if_pos hr0] at HAA HPP
    clear hr0
    go_wp2_with fail
    refine (l1Next_x base g a c zs _ 34 (by decide) (by decide) _ hS4.src).mono ?_
    rintro e w5 ⟨rfl, hs5, hf5⟩
    have hS5 := hS4.call hs5 hf5
    rw [← HPP.out] at hS5
    rw [← HAA.out]
    clear hS4 hs5 hf5 HAA HPP
    go_wp2_with fail
    refine (l1Next_x base g a c zs _ 2 (by decide) (by decide) _ hS5.src).mono ?_
    rintro e w6 ⟨rfl, hs6, hf6⟩
    have hS6 := hS5.call hs6 hf6
    clear hS5 hs6 hf6
    have haI : (at' : Int) < 128 := by omega
    generalize nxV zs pS 2 = r1 at *
    by_cases hr1 : r1 = 0
    · have hr1b : (r1 == 0) = true := by simpa using hr1
      rw [if_pos hr1] at HBB
      obtain ⟨g1, g2⟩ := hS6.row.get hl.symm at' (by omega)
      have HS6 : Hid _ := hS6
      have hsh := nxV_in zs (nxS zs pS) (n := 8) (by decide) (by decide)
      have HNX : Hid (Calls Tryz.prog 26 #[.pointer (some ⟨g, 0, none⟩), .int .i64 8] w6.drew fun e w' => e = .returned (.int .i64 (nxV zs (nxS zs pS) 8)) ∧ SrcX base g a c zs (nxS zs (nxS zs pS)) w' ∧ Frm (· = g) w6.drew w') := l1Next_x base g a c zs _ 8 (by decide) (by decide) _ (HS6.out.src.heap rfl)
      clear hr1 hS6
      go_wp2_with fail
      obtain ⟨bx, HBX⟩ : ∃ bx, Hid (bs.getD at' 0 = bx) := ⟨_, rfl⟩
      rw [HBX.out] at g1 HBB
      refine wp_region_E (fun w' => w'.cell? ⟨q, at', none⟩ = some (.int .u8 bx)) 12 (by kernel_rfl) ?_
      have hq0 : (fun w' : World => w'.cell? ⟨q, at', none⟩ = some (.int .u8 bx)) w6.drew := g1
      refine wpAnyE_take (i := 0) 38 (.slice (some ⟨q, 0, none⟩) 128 cap) (by kernel_rfl) rfl (by kernel_rfl) (by kernel_rfl) (by kernel_rfl) (fun _ _ _ h => h) rfl rfl hq0 (fun w' hw => by have m0 : w'.cell? ⟨q, at', none⟩ = some (.int .u8 bx) := hw; go_simp <;> first | omega | kernel_rfl | decide) ?_
      simp only [Act.put, List.setIfInBounds_toArray, List.set_cons_zero, List.set_cons_succ]
      refine wpAnyE_take (i := 1) 39 (.int .i64 at') (by kernel_rfl) rfl (by kernel_rfl) (by kernel_rfl) (by kernel_rfl) (fun _ _ _ h => h) rfl rfl hq0 (fun w' hw => by have m0 : w'.cell? ⟨q, at', none⟩ = some (.int .u8 bx) := hw; go_simp <;> first | omega | kernel_rfl | decide) ?_
      simp only [Act.put, List.setIfInBounds_toArray, List.set_cons_zero, List.set_cons_succ]
      refine wpAnyE_take (i := 2) 40 (.slice (some ⟨q, 0, none⟩) 128 cap) (by kernel_rfl) rfl (by kernel_rfl) (by kernel_rfl) (by kernel_rfl) (fun _ _ _ h => h) rfl rfl hq0 (fun w' hw => by have m0 : w'.cell? ⟨q, at', none⟩ = some (.int .u8 bx) := hw; go_simp <;> first | omega | kernel_rfl | decide) ?_
      simp only [Act.put, List.setIfInBounds_toArray, List.set_cons_zero, List.set_cons_succ]
      refine wpAnyE_take (i := 3) 41 (.int .i64 at') (by kernel_rfl) rfl (by kernel_rfl) (by kernel_rfl) (by kernel_rfl) (fun _ _ _ h => h) rfl rfl hq0 (fun w' hw => by have m0 : w'.cell? ⟨q, at', none⟩ = some (.int .u8 bx) := hw; go_simp <;> first | omega | kernel_rfl | decide) ?_
      simp only [Act.put, List.setIfInBounds_toArray, List.set_cons_zero, List.set_cons_succ]
      refine wpAnyE_take (i := 4) 42 (.pointer (some ⟨q, at', none⟩)) (by kernel_rfl) rfl (by kernel_rfl) (by kernel_rfl) (by kernel_rfl) (fun _ _ _ h => h) rfl rfl hq0 (fun w' hw => by have m0 : w'.cell? ⟨q, at', none⟩ = some (.int .u8 bx) := hw; go_simp <;> first | omega | kernel_rfl | decide) ?_
      simp only [Act.put, List.setIfInBounds_toArray, List.set_cons_zero, List.set_cons_succ]
      refine wpAnyE_take (i := 5) 43 (.int .u8 bx) (by kernel_rfl) rfl (by kernel_rfl) (by kernel_rfl) (by kernel_rfl) (fun _ _ _ h => h) rfl rfl hq0 (fun w' hw => by have m0 : w'.cell? ⟨q, at', none⟩ = some (.int .u8 bx) := hw; go_simp <;> first | omega | kernel_rfl | decide) ?_
      simp only [Act.put, List.setIfInBounds_toArray, List.set_cons_zero, List.set_cons_succ]
      refine wpAnyE_take (i := 6) 44 (.pointer (some ⟨g, 0, none⟩)) (by kernel_rfl) rfl (by kernel_rfl) (by kernel_rfl) (by kernel_rfl) (fun _ _ _ h => h) rfl rfl hq0 (fun w' hw => by have m0 : w'.cell? ⟨q, at', none⟩ = some (.int .u8 bx) := hw; go_simp <;> first | omega | kernel_rfl | decide) ?_
      simp only [Act.put, List.setIfInBounds_toArray, List.set_cons_zero, List.set_cons_succ]
      refine wpAnyE_one (i := 7) (by kernel_rfl) rfl rfl (fun K2 hK2 => ?_)
      go_simp
      refine HNX.out.mono ?_
      rintro e w7 ⟨rfl, hs7, hf7⟩
      have hS7 := (HS6.out.call (W' := w6.drew) (HS6.out.src.heap rfl) ((Frm.refl _ _).drew)).call hs7 hf7
      obtain ⟨k1, k2⟩ := hS7.row.get hl.symm at' (by omega)
      rw [HBX.out] at k1
      generalize nxV zs (nxS zs pS) 8 = sh at *
      obtain ⟨s8, hs8⟩ : ∃ s8 : Nat, sh = s8 := ⟨sh.toNat, by omega⟩
      subst hs8
      rw [Int.toNat_natCast] at HBB
      have hs88 : s8 < 8 := by omega
      have wu : IntKind.u64.wrap (s8 : Int) = s8 := by simp only [IntKind.wrap, IntKind.signed, IntKind.bits]; simp; omega
      have hmin : min s8 8 = s8 := by omega
      have wsh : IntKind.u8.wrap (2 ^ s8) = 2 ^ s8 % 256 := by simp [IntKind.wrap, IntKind.signed, IntKind.bits]
      have hq7 : (fun w' : World => w'.cell? ⟨q, at', none⟩ = some (.int .u8 bx)) w7 := k1
      refine hK2 _ _ (fun _ => hq7) ?_
      clear hK2 K2
      try simp only [Act.put, List.setIfInBounds_toArray, List.set_cons_zero, List.set_cons_succ]
      refine wpAnyE_take (i := 8) 46 (.int .u64 s8) (by kernel_rfl) rfl (by kernel_rfl) (by kernel_rfl) (by kernel_rfl) (fun _ _ _ h => h) rfl rfl hq7 (fun w' hw => by have m0 : w'.cell? ⟨q, at', none⟩ = some (.int .u8 bx) := hw; go_simp <;> first | omega | kernel_rfl | decide) ?_
      simp only [Act.put, List.setIfInBounds_toArray, List.set_cons_zero, List.set_cons_succ]
      refine wpAnyE_take (i := 9) 47 (.int .u8 (2 ^ s8 % 256)) (by kernel_rfl) rfl (by kernel_rfl) (by kernel_rfl) (by kernel_rfl) (fun _ _ _ h => h) rfl rfl hq7 (fun w' hw => by have m0 : w'.cell? ⟨q, at', none⟩ = some (.int .u8 bx) := hw; go_simp <;> first | omega | kernel_rfl | decide) ?_
      simp only [Act.put, List.setIfInBounds_toArray, List.set_cons_zero, List.set_cons_succ]
      have HBC : bits .xor .u8 bx (2 ^ s8 % 256) = bv := HBB.out.symm
      refine wpAnyE_take (i := 10) 48 (.int .u8 bv) (by kernel_rfl) rfl (by kernel_rfl) (by kernel_rfl) (by kernel_rfl) (fun _ _ _ h => h) rfl rfl hq7 (fun w' hw => by have m0 : w'.cell? ⟨q, at', none⟩ = some (.int .u8 bx) := hw; go_simp <;> first | omega | kernel_rfl | decide) ?_
      simp only [Act.put, List.setIfInBounds_toArray, List.set_cons_zero, List.set_cons_succ]
      refine wpAnyE_take (i := 11) 49 (.pointer (some ⟨q, at', none⟩)) (by kernel_rfl) rfl (by kernel_rfl) (by kernel_rfl) (by kernel_rfl) (fun _ _ _ h => h) rfl rfl hq7 (fun w' hw => by have m0 : w'.cell? ⟨q, at', none⟩ = some (.int .u8 bx) := hw; go_simp <;> first | omega | kernel_rfl | decide) ?_
      simp only [Act.put, List.setIfInBounds_toArray, List.set_cons_zero, List.set_cons_succ]
      refine wpAnyE_one (i := 12) (by kernel_rfl) rfl rfl (fun K2 hK2 => ?_)
      go_simp
      refine hK2 _ _ (fun hne => absurd rfl hne) ?_
      clear hK2 K2
      refine wpAnyE_done (by kernel_rfl) ?_ _
      have hS8 := hS7.put at' ha128 bv
      rw [← HO.out] at hS8
      have HS8 : Hid _ := hS8
      clear g1 g2 k1 k2 HBC hq0 hq7 hs7 hf7 hS7 hS8 HS6 HNX HBB HBX
      generalize w7.setCell ⟨q, at', none⟩ (.int .u8 bv) = W8 at *
      by_cases hk4 : 4 ≤ k
      · rw [if_pos hk4] at HD2
        have hlO := HS8.out.len
        have hR := HS8.out.row.cut (m := 124) hlO.symm (by omega) (by omega)
        have HR : Hid (Row8 w.heap.size W8 (.slice (some ⟨q, 0, none⟩) 124 cap) (O.take 124)) := hR
        have hl124 : (O.take 124).length = 124 := by simp; omega
        have HSZ : Hid (w.heap.size ≤ W8.heap.size) := HS8.out.frm.size
        have HOT : Hid (Byt (O.take 124)) := byt_take HOB.out _
        have HL124 : Hid ((O.take 124).length ≤ 124) := by rw [Hid, hl124]; omega
        have hc124 : (124 : Int) ≤ (cap : Int) := by omega
        clear hR hlO hl124
        generalize O.take 124 = OT at *
        go_wp2_with fail
        refine (l2Seal_any _ OT w.heap.size _ HR.out HSZ.out HL124.out HOT.out).mono ?_
        rintro e w9 ⟨u9, rfl, hR9, hb9⟩
        rw [← HD2.out] at hR9
        have hlD : D.length = 128 := by rw [HD2.out]; exact sealL_length _ HL124.out
        obtain ⟨q9, cap9, cur9, hv9, hq9, -, hc9, -⟩ := hR9.lay (by omega)
        subst hv9
        have HEND : Hid (Bts w9 (.slice (some ⟨q9, 0, none⟩) D.length cap9) D ∧ D.length ≤ cap9 ∧ Frm (· = g) w w9) := by
          have hfw := HS8.out.frm
          exact ⟨Row8.bts hR9 HDB.out, hc9, hb9.os.trans hfw.os, hb9.tape.trans hfw.tape, hb9.output.trans hfw.output, Nat.le_trans hfw.size hb9.size, fun i hi hn => (hb9.block i hi).trans (hfw.block i hi hn)⟩
        clear hR9 hb9 hc9 hlD
        go_wp2
        go_ret
        exact ⟨⟨_, _, rfl, HEND.out.1, HEND.out.2.1⟩, HEND.out.2.2⟩
      · rw [if_neg hk4] at HD2
        have hlO := HS8.out.len
        have hDO : D = O := HD2.out
        have HEND : Hid (Bts W8 (.slice (some ⟨q, 0, none⟩) 128 cap) D ∧ Frm (· = g) w W8) := by
          rw [hDO]
          exact ⟨Row8.bts HS8.out.row HOB.out, HS8.out.frm⟩
        have HLD : Hid (D.length = 128) := by rw [Hid, hDO]; exact hlO
        clear hDO hlO HD2 HS8
        go_wp2
        go_ret
        exact ⟨⟨some ⟨q, 0, none⟩, cap, by rw [HLD.out]; rfl, by rw [HLD.out]; exact HEND.out.1, by rw [HLD.out]; exact hcap⟩, HEND.out.2⟩
    · have hr1b : (r1 == 0) = false := by simpa using hr1
      rw [if_neg hr1] at HBB
      have hv := nxV_in zs (nxS zs pS) (n := 26) (by decide) (by decide)
      clear hr1
      go_wp2_with fail
      refine (l1Next_x base g a c zs _ 26 (by decide) (by decide) _ hS6.src).mono ?_
      rintro e w7 ⟨rfl, hs7, hf7⟩
      have hS7 := hS6.call hs7 hf7
      rw [← HBB.out]
      have hwv : IntKind.u8.wrap bv = bv := IntWalk.u8_in _ ⟨by omega, by omega⟩
      obtain ⟨g1, g2⟩ := hS7.row.get hl.symm at' (by omega)
      have hS8 := hS7.put at' ha128 bv
      rw [← HO.out] at hS8
      have HS8 : Hid _ := hS8
      clear hS6 hs7 hf7 hS7 hS8 HBB hv
      go_upto_region 15 with fail
      clear g1 g2
      generalize w7.setCell ⟨q, at', none⟩ (.int .u8 bv) = W8 at *
      by_cases hk4 : 4 ≤ k
      · rw [if_pos hk4] at HD2
        have hlO := HS8.out.len
        have hR := HS8.out.row.cut (m := 124) hlO.symm (by omega) (by omega)
        have HR : Hid (Row8 w.heap.size W8 (.slice (some ⟨q, 0, none⟩) 124 cap) (O.take 124)) := hR
        have hl124 : (O.take 124).length = 124 := by simp; omega
        have HSZ : Hid (w.heap.size ≤ W8.heap.size) := HS8.out.frm.size
        have HOT : Hid (Byt (O.take 124)) := byt_take HOB.out _
        have HL124 : Hid ((O.take 124).length ≤ 124) := by rw [Hid, hl124]; omega
        have hc124 : (124 : Int) ≤ (cap : Int) := by omega
        clear hR hlO hl124
        generalize O.take 124 = OT at *
        go_wp2_with fail
        refine (l2Seal_any _ OT w.heap.size _ HR.out HSZ.out HL124.out HOT.out).mono ?_
        rintro e w9 ⟨u9, rfl, hR9, hb9⟩
        rw [← HD2.out] at hR9
        have hlD : D.length = 128 := by rw [HD2.out]; exact sealL_length _ HL124.out
        obtain ⟨q9, cap9, cur9, hv9, hq9, -, hc9, -⟩ := hR9.lay (by omega)
        subst hv9
        have HEND : Hid (Bts w9 (.slice (some ⟨q9, 0, none⟩) D.length cap9) D ∧ D.length ≤ cap9 ∧ Frm (· = g) w w9) := by
          have hfw := HS8.out.frm
          exact ⟨Row8.bts hR9 HDB.out, hc9, hb9.os.trans hfw.os, hb9.tape.trans hfw.tape, hb9.output.trans hfw.output, Nat.le_trans hfw.size hb9.size, fun i hi hn => (hb9.block i hi).trans (hfw.block i hi hn)⟩
        clear hR9 hb9 hc9 hlD
        go_wp2
        go_ret
        exact ⟨⟨_, _, rfl, HEND.out.1, HEND.out.2.1⟩, HEND.out.2.2⟩
      · rw [if_neg hk4] at HD2
        have hlO := HS8.out.len
        have hDO : D = O := HD2.out
        have HEND : Hid (Bts W8 (.slice (some ⟨q, 0, none⟩) 128 cap) D ∧ Frm (· = g) w W8) := by
          rw [hDO]
          exact ⟨Row8.bts HS8.out.row HOB.out, HS8.out.frm⟩
        have HLD : Hid (D.length = 128) := by rw [Hid, hDO]; exact hlO
        clear hDO hlO HD2 HS8
        go_wp2
        go_ret
        exact ⟨⟨some ⟨q, 0, none⟩, cap, by rw [HLD.out]; rfl, by rw [HLD.out]; exact HEND.out.1, by rw [HLD.out]; exact hcap⟩, HEND.out.2⟩
  · have hr0b : (r0 == 0) = false := by simpa using hr0
    rw [if_neg hr0] at HAA HPP
    have hS5 := hS4
    rw [← HPP.out] at hS5
    rw [← HAA.out]
    clear hr0 hS4 HAA HPP
    generalize w4 = w5 at *
    go_wp2_with fail
    refine (l1Next_x base g a c zs _ 2 (by decide) (by decide) _ hS5.src).mono ?_
    rintro e w6 ⟨rfl, hs6, hf6⟩
    have hS6 := hS5.call hs6 hf6
    clear hS5 hs6 hf6
    have haI : (at' : Int) < 128 := by omega
    generalize nxV zs pS 2 = r1 at *
    by_cases hr1 : r1 = 0
    · have hr1b : (r1 == 0) = true := by simpa using hr1
      rw [if_pos hr1] at HBB
      obtain ⟨g1, g2⟩ := hS6.row.get hl.symm at' (by omega)
      have HS6 : Hid _ := hS6
      have hsh := nxV_in zs (nxS zs pS) (n := 8) (by decide) (by decide)
      have HNX : Hid (Calls Tryz.prog 26 #[.pointer (some ⟨g, 0, none⟩), .int .i64 8] w6.drew fun e w' => e = .returned (.int .i64 (nxV zs (nxS zs pS) 8)) ∧ SrcX base g a c zs (nxS zs (nxS zs pS)) w' ∧ Frm (· = g) w6.drew w') := l1Next_x base g a c zs _ 8 (by decide) (by decide) _ (HS6.out.src.heap rfl)
      clear hr1 hS6
      go_wp2_with fail
      obtain ⟨bx, HBX⟩ : ∃ bx, Hid (bs.getD at' 0 = bx) := ⟨_, rfl⟩
      rw [HBX.out] at g1 HBB
      refine wp_region_E (fun w' => w'.cell? ⟨q, at', none⟩ = some (.int .u8 bx)) 12 (by kernel_rfl) ?_
      have hq0 : (fun w' : World => w'.cell? ⟨q, at', none⟩ = some (.int .u8 bx)) w6.drew := g1
      refine wpAnyE_take (i := 0) 38 (.slice (some ⟨q, 0, none⟩) 128 cap) (by kernel_rfl) rfl (by kernel_rfl) (by kernel_rfl) (by kernel_rfl) (fun _ _ _ h => h) rfl rfl hq0 (fun w' hw => by have m0 : w'.cell? ⟨q, at', none⟩ = some (.int .u8 bx) := hw; go_simp <;> first | omega | kernel_rfl | decide) ?_
      simp only [Act.put, List.setIfInBounds_toArray, List.set_cons_zero, List.set_cons_succ]
      refine wpAnyE_take (i := 1) 39 (.int .i64 at') (by kernel_rfl) rfl (by kernel_rfl) (by kernel_rfl) (by kernel_rfl) (fun _ _ _ h => h) rfl rfl hq0 (fun w' hw => by have m0 : w'.cell? ⟨q, at', none⟩ = some (.int .u8 bx) := hw; go_simp <;> first | omega | kernel_rfl | decide) ?_
      simp only [Act.put, List.setIfInBounds_toArray, List.set_cons_zero, List.set_cons_succ]
      refine wpAnyE_take (i := 2) 40 (.slice (some ⟨q, 0, none⟩) 128 cap) (by kernel_rfl) rfl (by kernel_rfl) (by kernel_rfl) (by kernel_rfl) (fun _ _ _ h => h) rfl rfl hq0 (fun w' hw => by have m0 : w'.cell? ⟨q, at', none⟩ = some (.int .u8 bx) := hw; go_simp <;> first | omega | kernel_rfl | decide) ?_
      simp only [Act.put, List.setIfInBounds_toArray, List.set_cons_zero, List.set_cons_succ]
      refine wpAnyE_take (i := 3) 41 (.int .i64 at') (by kernel_rfl) rfl (by kernel_rfl) (by kernel_rfl) (by kernel_rfl) (fun _ _ _ h => h) rfl rfl hq0 (fun w' hw => by have m0 : w'.cell? ⟨q, at', none⟩ = some (.int .u8 bx) := hw; go_simp <;> first | omega | kernel_rfl | decide) ?_
      simp only [Act.put, List.setIfInBounds_toArray, List.set_cons_zero, List.set_cons_succ]
      refine wpAnyE_take (i := 4) 42 (.pointer (some ⟨q, at', none⟩)) (by kernel_rfl) rfl (by kernel_rfl) (by kernel_rfl) (by kernel_rfl) (fun _ _ _ h => h) rfl rfl hq0 (fun w' hw => by have m0 : w'.cell? ⟨q, at', none⟩ = some (.int .u8 bx) := hw; go_simp <;> first | omega | kernel_rfl | decide) ?_
      simp only [Act.put, List.setIfInBounds_toArray, List.set_cons_zero, List.set_cons_succ]
      refine wpAnyE_take (i := 5) 43 (.int .u8 bx) (by kernel_rfl) rfl (by kernel_rfl) (by kernel_rfl) (by kernel_rfl) (fun _ _ _ h => h) rfl rfl hq0 (fun w' hw => by have m0 : w'.cell? ⟨q, at', none⟩ = some (.int .u8 bx) := hw; go_simp <;> first | omega | kernel_rfl | decide) ?_
      simp only [Act.put, List.setIfInBounds_toArray, List.set_cons_zero, List.set_cons_succ]
      refine wpAnyE_take (i := 6) 44 (.pointer (some ⟨g, 0, none⟩)) (by kernel_rfl) rfl (by kernel_rfl) (by kernel_rfl) (by kernel_rfl) (fun _ _ _ h => h) rfl rfl hq0 (fun w' hw => by have m0 : w'.cell? ⟨q, at', none⟩ = some (.int .u8 bx) := hw; go_simp <;> first | omega | kernel_rfl | decide) ?_
      simp only [Act.put, List.setIfInBounds_toArray, List.set_cons_zero, List.set_cons_succ]
      refine wpAnyE_one (i := 7) (by kernel_rfl) rfl rfl (fun K2 hK2 => ?_)
      go_simp
      refine HNX.out.mono ?_
      rintro e w7 ⟨rfl, hs7, hf7⟩
      have hS7 := (HS6.out.call (W' := w6.drew) (HS6.out.src.heap rfl) ((Frm.refl _ _).drew)).call hs7 hf7
      obtain ⟨k1, k2⟩ := hS7.row.get hl.symm at' (by omega)
      rw [HBX.out] at k1
      generalize nxV zs (nxS zs pS) 8 = sh at *
      obtain ⟨s8, hs8⟩ : ∃ s8 : Nat, sh = s8 := ⟨sh.toNat, by omega⟩
      subst hs8
      rw [Int.toNat_natCast] at HBB
      have hs88 : s8 < 8 := by omega
      have wu : IntKind.u64.wrap (s8 : Int) = s8 := by simp only [IntKind.wrap, IntKind.signed, IntKind.bits]; simp; omega
      have hmin : min s8 8 = s8 := by omega
      have wsh : IntKind.u8.wrap (2 ^ s8) = 2 ^ s8 % 256 := by simp [IntKind.wrap, IntKind.signed, IntKind.bits]
      have hq7 : (fun w' : World => w'.cell? ⟨q, at', none⟩ = some (.int .u8 bx)) w7 := k1
      refine hK2 _ _ (fun _ => hq7) ?_
      clear hK2 K2
      try simp only [Act.put, List.setIfInBounds_toArray, List.set_cons_zero, List.set_cons_succ]
      refine wpAnyE_take (i := 8) 46 (.int .u64 s8) (by kernel_rfl) rfl (by kernel_rfl) (by kernel_rfl) (by kernel_rfl) (fun _ _ _ h => h) rfl rfl hq7 (fun w' hw => by have m0 : w'.cell? ⟨q, at', none⟩ = some (.int .u8 bx) := hw; go_simp <;> first | omega | kernel_rfl | decide) ?_
      simp only [Act.put, List.setIfInBounds_toArray, List.set_cons_zero, List.set_cons_succ]
      refine wpAnyE_take (i := 9) 47 (.int .u8 (2 ^ s8 % 256)) (by kernel_rfl) rfl (by kernel_rfl) (by kernel_rfl) (by kernel_rfl) (fun _ _ _ h => h) rfl rfl hq7 (fun w' hw => by have m0 : w'.cell? ⟨q, at', none⟩ = some (.int .u8 bx) := hw; go_simp <;> first | omega | kernel_rfl | decide) ?_
      simp only [Act.put, List.setIfInBounds_toArray, List.set_cons_zero, List.set_cons_succ]
      have HBC : bits .xor .u8 bx (2 ^ s8 % 256) = bv := HBB.out.symm
      refine wpAnyE_take (i := 10) 48 (.int .u8 bv) (by kernel_rfl) rfl (by kernel_rfl) (by kernel_rfl) (by kernel_rfl) (fun _ _ _ h => h) rfl rfl hq7 (fun w' hw => by have m0 : w'.cell? ⟨q, at', none⟩ = some (.int .u8 bx) := hw; go_simp <;> first | omega | kernel_rfl | decide) ?_
      simp only [Act.put, List.setIfInBounds_toArray, List.set_cons_zero, List.set_cons_succ]
      refine wpAnyE_take (i := 11) 49 (.pointer (some ⟨q, at', none⟩)) (by kernel_rfl) rfl (by kernel_rfl) (by kernel_rfl) (by kernel_rfl) (fun _ _ _ h => h) rfl rfl hq7 (fun w' hw => by have m0 : w'.cell? ⟨q, at', none⟩ = some (.int .u8 bx) := hw; go_simp <;> first | omega | kernel_rfl | decide) ?_
      simp only [Act.put, List.setIfInBounds_toArray, List.set_cons_zero, List.set_cons_succ]
      refine wpAnyE_one (i := 12) (by kernel_rfl) rfl rfl (fun K2 hK2 => ?_)
      go_simp
      refine hK2 _ _ (fun hne => absurd rfl hne) ?_
      clear hK2 K2
      refine wpAnyE_done (by kernel_rfl) ?_ _
      have hS8 := hS7.put at' ha128 bv
      rw [← HO.out] at hS8
      have HS8 : Hid _ := hS8
      clear g1 g2 k1 k2 HBC hq0 hq7 hs7 hf7 hS7 hS8 HS6 HNX HBB HBX
      generalize w7.setCell ⟨q, at', none⟩ (.int .u8 bv) = W8 at *
      by_cases hk4 : 4 ≤ k
      · rw [if_pos hk4] at HD2
        have hlO := HS8.out.len
        have hR := HS8.out.row.cut (m := 124) hlO.symm (by omega) (by omega)
        have HR : Hid (Row8 w.heap.size W8 (.slice (some ⟨q, 0, none⟩) 124 cap) (O.take 124)) := hR
        have hl124 : (O.take 124).length = 124 := by simp; omega
        have HSZ : Hid (w.heap.size ≤ W8.heap.size) := HS8.out.frm.size
        have HOT : Hid (Byt (O.take 124)) := byt_take HOB.out _
        have HL124 : Hid ((O.take 124).length ≤ 124) := by rw [Hid, hl124]; omega
        have hc124 : (124 : Int) ≤ (cap : Int) := by omega
        clear hR hlO hl124
        generalize O.take 124 = OT at *
        go_wp2_with fail
        refine (l2Seal_any _ OT w.heap.size _ HR.out HSZ.out HL124.out HOT.out).mono ?_
        rintro e w9 ⟨u9, rfl, hR9, hb9⟩
        rw [← HD2.out] at hR9
        have hlD : D.length = 128 := by rw [HD2.out]; exact sealL_length _ HL124.out
        obtain ⟨q9, cap9, cur9, hv9, hq9, -, hc9, -⟩ := hR9.lay (by omega)
        subst hv9
        have HEND : Hid (Bts w9 (.slice (some ⟨q9, 0, none⟩) D.length cap9) D ∧ D.length ≤ cap9 ∧ Frm (· = g) w w9) := by
          have hfw := HS8.out.frm
          exact ⟨Row8.bts hR9 HDB.out, hc9, hb9.os.trans hfw.os, hb9.tape.trans hfw.tape, hb9.output.trans hfw.output, Nat.le_trans hfw.size hb9.size, fun i hi hn => (hb9.block i hi).trans (hfw.block i hi hn)⟩
        clear hR9 hb9 hc9 hlD
        go_wp2
        go_ret
        exact ⟨⟨_, _, rfl, HEND.out.1, HEND.out.2.1⟩, HEND.out.2.2⟩
      · rw [if_neg hk4] at HD2
        have hlO := HS8.out.len
        have hDO : D = O := HD2.out
        have HEND : Hid (Bts W8 (.slice (some ⟨q, 0, none⟩) 128 cap) D ∧ Frm (· = g) w W8) := by
          rw [hDO]
          exact ⟨Row8.bts HS8.out.row HOB.out, HS8.out.frm⟩
        have HLD : Hid (D.length = 128) := by rw [Hid, hDO]; exact hlO
        clear hDO hlO HD2 HS8
        go_wp2
        go_ret
        exact ⟨⟨some ⟨q, 0, none⟩, cap, by rw [HLD.out]; rfl, by rw [HLD.out]; exact HEND.out.1, by rw [HLD.out]; exact hcap⟩, HEND.out.2⟩
    · have hr1b : (r1 == 0) = false := by simpa using hr1
      rw [if_neg hr1] at HBB
      have hv := nxV_in zs (nxS zs pS) (n := 26) (by decide) (by decide)
      clear hr1
      go_wp2_with fail
      refine (l1Next_x base g a c zs _ 26 (by decide) (by decide) _ hS6.src).mono ?_
      rintro e w7 ⟨rfl, hs7, hf7⟩
      have hS7 := hS6.call hs7 hf7
      rw [← HBB.out]
      have hwv : IntKind.u8.wrap bv = bv := IntWalk.u8_in _ ⟨by omega, by omega⟩
      obtain ⟨g1, g2⟩ := hS7.row.get hl.symm at' (by omega)
      have hS8 := hS7.put at' ha128 bv
      rw [← HO.out] at hS8
      have HS8 : Hid _ := hS8
      clear hS6 hs7 hf7 hS7 hS8 HBB hv
      go_upto_region 15 with fail
      clear g1 g2
      generalize w7.setCell ⟨q, at', none⟩ (.int .u8 bv) = W8 at *
      by_cases hk4 : 4 ≤ k
      · rw [if_pos hk4] at HD2
        have hlO := HS8.out.len
        have hR := HS8.out.row.cut (m := 124) hlO.symm (by omega) (by omega)
        have HR : Hid (Row8 w.heap.size W8 (.slice (some ⟨q, 0, none⟩) 124 cap) (O.take 124)) := hR
        have hl124 : (O.take 124).length = 124 := by simp; omega
        have HSZ : Hid (w.heap.size ≤ W8.heap.size) := HS8.out.frm.size
        have HOT : Hid (Byt (O.take 124)) := byt_take HOB.out _
        have HL124 : Hid ((O.take 124).length ≤ 124) := by rw [Hid, hl124]; omega
        have hc124 : (124 : Int) ≤ (cap : Int) := by omega
        clear hR hlO hl124
        generalize O.take 124 = OT at *
        go_wp2_with fail
        refine (l2Seal_any _ OT w.heap.size _ HR.out HSZ.out HL124.out HOT.out).mono ?_
        rintro e w9 ⟨u9, rfl, hR9, hb9⟩
        rw [← HD2.out] at hR9
        have hlD : D.length = 128 := by rw [HD2.out]; exact sealL_length _ HL124.out
        obtain ⟨q9, cap9, cur9, hv9, hq9, -, hc9, -⟩ := hR9.lay (by omega)
        subst hv9
        have HEND : Hid (Bts w9 (.slice (some ⟨q9, 0, none⟩) D.length cap9) D ∧ D.length ≤ cap9 ∧ Frm (· = g) w w9) := by
          have hfw := HS8.out.frm
          exact ⟨Row8.bts hR9 HDB.out, hc9, hb9.os.trans hfw.os, hb9.tape.trans hfw.tape, hb9.output.trans hfw.output, Nat.le_trans hfw.size hb9.size, fun i hi hn => (hb9.block i hi).trans (hfw.block i hi hn)⟩
        clear hR9 hb9 hc9 hlD
        go_wp2
        go_ret
        exact ⟨⟨_, _, rfl, HEND.out.1, HEND.out.2.1⟩, HEND.out.2.2⟩
      · rw [if_neg hk4] at HD2
        have hlO := HS8.out.len
        have hDO : D = O := HD2.out
        have HEND : Hid (Bts W8 (.slice (some ⟨q, 0, none⟩) 128 cap) D ∧ Frm (· = g) w W8) := by
          rw [hDO]
          exact ⟨Row8.bts HS8.out.row HOB.out, HS8.out.frm⟩
        have HLD : Hid (D.length = 128) := by rw [Hid, hDO]; exact hlO
        clear hDO hlO HD2 HS8
        go_wp2
        go_ret
        exact ⟨⟨some ⟨q, 0, none⟩, cap, by rw [HLD.out]; rfl, by rw [HLD.out]; exact HEND.out.1, by rw [HLD.out]; exact hcap⟩, HEND.out.2⟩
end Go.Proofs.YtfbjagjgofdheaaGreatDoor

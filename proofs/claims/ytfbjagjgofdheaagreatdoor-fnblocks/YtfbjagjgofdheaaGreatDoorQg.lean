import Derived.Test.YtfbjagjgofdheaaGreatDoorQf
namespace Go.Proofs.YtfbjagjgofdheaaGreatDoor
open Go.RowKit
set_option linter.unusedVariables false

theorem infoRn3 : (Tryz.prog.info? 78).map (fun i => (i.zero, i.size, i.bytes)) = some (some (.agg #[.int .i64 0, .int .i64 0, .int .i64 0]), 3, 24) := by kernel_rfl
theorem wpList_appendG {ops : Array Oper} {rest : List Oper} {o : Oper} {a : Act} {w : World} {Q : Exit → Act → World → Prop} (hgd : o.guard = none) (s x : Operand) (st e : TypeId) (z : Value) (size bytes : Nat)
    (hu : Tryz.prog.underlying st = some (.slice e)) (hinfo : (Tryz.prog.info? e).map (fun i => (i.zero, i.size, i.bytes)) = some (some z, size, bytes)) (hzs : z.cells.size = size) (hsz : 0 < size)
    (ho : o.op = .call { callee := .builtin .append, args := #[s, x], argTypes := #[st, st] })
    {base : Nat} {v : Value} {n : Nat} {cs : List Value} (hown : w.ownsRow base e size v n cs) (hs : a.eval s = v) (ad : Addr) (m c : Nat) (hx : a.eval x = .slice (some ad) m c) (news : List Value) (hl : news.length = m * size)
    (hnews : ∀ j u, news[j]? = some u → w.cell? (ad.add j) = some u) (h1 : ∀ u ∈ news, u.oneCell' = true) (hlen : n + m ≤ 100000) (hby : bytes ≤ 1000) (hb : base ≤ w.heap.size)
    (h : ∀ v' w', w'.ownsRow base e size v' (n + m) (cs ++ news) → w.grownBy w' v.ownBlock → wpList Tryz.prog ops Q rest (a.put o.dst v') w') : wpList Tryz.prog ops Q (o :: rest) a w := by
  obtain ⟨i0, hi, hzz⟩ := Option.map_eq_some_iff.1 hinfo
  simp only [Prod.mk.injEq] at hzz
  obtain ⟨hz0, hz1, hz2⟩ := hzz
  have hbb : (n + m) * bytes ≤ 140737488355328 := Nat.le_trans (Nat.mul_le_mul hlen hby) (by omega)
  exact wpList_append_own _ hgd s x st ho base e i0 z size bytes hu hi hz0 hz1 hz2 hzs hsz v n cs hs hown ad m c news hx hl hnews h1 (by unfold maxLen; omega) hbb hb fun v' w' h2 h3 _ => h v' w' h2 h3

/-- l2DrawRuns at work: the runs, the source -/
structure Dr (w : World) (base g : Nat) (a : Option Addr) (c : Nat) (zs : List Int) (v : Value) (rs : List R3) (p : St3) (W : World) : Prop where
  own : W.ownsRow w.heap.size 78 3 v rs.length (rs.flatMap flat3)
  src : SrcX base g a c zs p W
  frm : Frm (· = g) w W
  glt : g < w.heap.size
/-- and a run's box -/
structure Dx (w : World) (base g : Nat) (a : Option Addr) (c : Nat) (zs : List Int) (v : Value) (rs : List R3) (p : St3) (eb : Nat) (e : R3) (W : World) : Prop where
  dr : Dr w base g a c zs v rs p W
  ebx : W.heap[eb]? = some (.cells #[.int .i64 e.1, .int .i64 e.2.1, .int .i64 e.2.2] 78 (0, 0))
  far : ∀ q, v.ownBlock = some q → q ≠ eb
  hge : w.heap.size ≤ eb
section
variable {w : World} {base g : Nat} {a : Option Addr} {c : Nat} {zs : List Int} {v : Value} {rs : List R3} {p p' : St3} {eb : Nat} {e : R3} {W W' : World}
theorem Dr.call (h : Dr w base g a c zs v rs p W) (hs : SrcX base g a c zs p' W') (hf : Frm (· = g) W W') : Dr w base g a c zs v rs p' W' := by
  have h2 := h.glt
  refine ⟨⟨h.own.1, ?_⟩, hs, h.frm.trans hf, h2⟩
  rcases h.own.2 with hv | ⟨q, cap, cur, hv, e1, e2, e3⟩
  · exact .inl hv
  · exact .inr ⟨q, cap, cur, hv, e1, (hf.block q (Array.getElem?_eq_some_iff.1 e2).1 (by show ¬ q = g; omega)).trans e2, e3⟩
theorem Dr.below (h : Dr w base g a c zs v rs p W) (hb : Below W.heap.size W W') : Dr w base g a c zs v rs p W' := h.call (h.src.below hb) (Frm.of_below hb)
theorem Dx.call (h : Dx w base g a c zs v rs p eb e W) (hs : SrcX base g a c zs p' W') (hf : Frm (· = g) W W') : Dx w base g a c zs v rs p' eb e W' := by
  have h2 := h.dr.glt
  have h3 := h.hge
  exact ⟨h.dr.call hs hf, (hf.block _ (Array.getElem?_eq_some_iff.1 h.ebx).1 (by show ¬ eb = g; omega)).trans h.ebx, h.far, h3⟩
theorem Dx.below (h : Dx w base g a c zs v rs p eb e W) (hb : Below W.heap.size W W') : Dx w base g a c zs v rs p eb e W' := h.call (h.dr.src.below hb) (Frm.of_below hb)
theorem Dx.new (h : Dr w base g a c zs v rs p W) (x y z : Int) : Dx w base g a c zs v rs p W.heap.size (x, y, z) (W.alloc (.cells #[.int .i64 x, .int .i64 y, .int .i64 z] 78)) :=
  ⟨h.below (belowA _ _), heap_alloc_new _ _, fun q hq => by have := World.ownsRow.lt h.own q hq; omega, h.frm.size⟩
theorem Dx.set2 (h : Dx w base g a c zs v rs p eb e W) (k : Int) : Dx w base g a c zs v rs p eb (e.1, e.2.1, k) (W.setCell ⟨eb, 2, none⟩ (.int .i64 k)) := by
  have h2 := h.dr.glt
  have h3 := h.hge
  have h4 := h.dr.src.lo
  have hf : Frm (fun b => b = eb) W (W.setCell ⟨eb, 2, none⟩ (.int .i64 k)) := ⟨rfl, rfl, rfl, by simp [World.setCell], fun k _ hn => Below.heap_setCell _ _ _ _ hn⟩
  refine ⟨⟨?_, h.dr.src.frm hf (by show ¬ g = eb; omega) (fun b hb => by omega), ?_, h2⟩, by simpa using heap_setCell_same W eb 2 _ _ (.int .i64 k) h.ebx, h.far, h3⟩
  · refine ⟨h.dr.own.1, ?_⟩
    rcases h.dr.own.2 with hv | ⟨q, cap, cur, hv, e1, e2, e3⟩
    · exact .inl hv
    · exact .inr ⟨q, cap, cur, hv, e1, (hf.block q (Array.getElem?_eq_some_iff.1 e2).1 (h.far q (by rw [hv]; rfl))).trans e2, e3⟩
  · have hfw := h.dr.frm
    exact ⟨hf.os.trans hfw.os, hf.tape.trans hfw.tape, hf.output.trans hfw.output, Nat.le_trans hfw.size hf.size, fun i hi hn => (hf.block i (by have := hfw.size; omega) (by show ¬ i = eb; omega)).trans (hfw.block i hi hn)⟩
theorem Dx.cells (h : Dx w base g a c zs v rs p eb e W) : W.cell? ⟨eb, 0, none⟩ = some (.int .i64 e.1) ∧ W.cell? ⟨eb, 1, none⟩ = some (.int .i64 e.2.1) ∧ W.cell? ⟨eb, 2, none⟩ = some (.int .i64 e.2.2) ∧ W.frozen? ⟨eb, 2, none⟩ = false :=
  ⟨(cell_of_row W eb 0 _ _ _ h.ebx).trans rfl, (cell_of_row W eb 1 _ _ _ h.ebx).trans rfl, (cell_of_row W eb 2 _ _ _ h.ebx).trans rfl, frozen_of_row W eb _ _ _ h.ebx⟩
/-- one run more -/
theorem Dx.grown {ya : Option Addr} {yc : Nat} {x : R3} (h : Dx w base g a c zs v rs p eb e W) (hown : W'.ownsRow w.heap.size 78 3 (.slice ya (rs.length + 1) yc) (rs.length + 1) (rs.flatMap flat3 ++ flat3 x)) (hg : W.grownBy W' v.ownBlock) : Dr w base g a c zs (.slice ya (rs.length + 1) yc) (rs ++ [x]) p W' ∧ W'.heap[eb]? = W.heap[eb]? := by
  have h2 := h.dr.glt
  have h4 := h.dr.src.lo
  have hf : Frm (fun b => v.ownBlock = some b) W W' := ⟨hg.os, hg.tape, hg.output, hg.size, fun k hk hn => hg.block k hk (fun e => hn e.symm)⟩
  have hlo : ∀ b, v.ownBlock = some b → w.heap.size ≤ b := fun b hb => (World.ownsRow.lt h.dr.own b hb).1
  refine ⟨⟨?_, h.dr.src.frm hf (fun e => by have := hlo g e; omega) (fun b hb => by have := hlo b hb; omega), ?_, h2⟩, hf.block eb (Array.getElem?_eq_some_iff.1 h.ebx).1 (fun e => h.far eb e rfl)⟩
  · rw [List.length_append, flat_snoc]; exact hown
  · have hfw := h.dr.frm
    exact ⟨hf.os.trans hfw.os, hf.tape.trans hfw.tape, hf.output.trans hfw.output, Nat.le_trans hfw.size hf.size, fun i hi hn => (hf.block i (by have := hfw.size; omega) (fun e => by have := hlo i e; omega)).trans (hfw.block i hi hn)⟩
end

set_option maxRecDepth 100000 in
set_option maxHeartbeats 16000000 in
theorem l2DrawRuns_x (base g : Nat) (a : Option Addr) (c : Nat) (zs : List Int) (p : St3) (w : World) (hs : SrcX base g a c zs p w) :
    Calls Tryz.prog 51 #[.pointer (some ⟨g, 0, none⟩), .int .i64 20, .int .i64 512] w fun e w' => (∃ a c, e = .returned (.slice a (drQ zs p).1.length c) ∧ RRead w' (.slice a (drQ zs p).1.length c) (drQ zs p).1 ∧ Fsh w.heap.size a) ∧ SrcX base g a c zs (drQ zs p).2 w' ∧ Frm (· = g) w w' := by
  have hgl := hs.lt
  have HQ : Hid (drQ zs p = drG zs [] (2 + nxV zs p 5) (nxS zs (nxS zs p)) (nxV zs (nxS zs p) 21).toNat) := rfl
  obtain ⟨R, HRR⟩ : ∃ R, Hid (drQ zs p = R) := ⟨_, rfl⟩
  have hv0 := nxV_in zs p (n := 5) (by decide) (by decide)
  have hv1 := nxV_in zs (nxS zs p) (n := 21) (by decide) (by decide)
  obtain ⟨n, hn⟩ : ∃ n : Nat, nxV zs (nxS zs p) 21 = n := ⟨(nxV zs (nxS zs p) 21).toNat, by omega⟩
  obtain ⟨pS, HPS⟩ : ∃ pS, Hid (nxS zs (nxS zs p) = pS) := ⟨_, rfl⟩
  have HN : Hid (nxV zs (nxS zs p) 21 = (n : Int)) := hn
  rw [HRR.out] at HQ ⊢
  rw [hn, Int.toNat_natCast, HPS.out] at HQ
  have hn21 : n ≤ 20 := by omega
  clear hn hv1 HRR
  have hb0 := belowA w (.cells #[] 78)
  have hD0 : Dr w base g a c zs (.slice (some ⟨w.heap.size, 0, none⟩) 0 0) [] p (w.alloc (.cells #[] 78)) := ⟨World.ownsRow_lit (e := 78) (size := 3) w #[] 0 (Nat.le_refl _) (by decide) rfl, hs.below hb0, Frm.of_below hb0, hgl⟩
  have HD0 : Hid _ := hD0
  clear hb0 hs
  go_enter Tryz.func51, Tryz.ntmps51
  go_wp2_with fail
  refine (l1Next_x base g a c zs p 5 (by decide) (by decide) _ hD0.src).mono ?_
  rintro e w1 ⟨rfl, hs1, hf1⟩
  have hD1 := hD0.call hs1 hf1
  generalize nxV zs p 5 = a5 at *
  have wa : IntKind.i64.wrap (2 + a5) = 2 + a5 := IntWalk.i64_in _ ⟨by omega, by omega⟩
  clear hD0 hs1 hf1 HD0
  go_wp2_with fail
  refine (l1Next_x base g a c zs _ 21 (by decide) (by decide) _ hD1.src).mono ?_
  rintro e w2 ⟨rfl, hs2, hf2⟩
  have hD2 := hD1.call hs2 hf2
  rw [HPS.out] at hD2
  rw [HN.out]
  have HD2 : Hid _ := hD2
  have HOK0 : Hid (drOK [] (2 + a5)) := ⟨⟨fun i hi => by simp at hi, fun i hi => by simp at hi⟩, by omega, fun h0 => by simp at h0⟩
  clear hD1 hs2 hf2 hD2 HN
  go_wp2
  go_loopw [7, 8, 10, 11] (fun v at' i _ wr => ∃ (rs : List R3) (pos : Int) (p1 : St3) (m : Nat), rs.length + m = n ∧ i = .int .i64 rs.length ∧ at' = .int .i64 pos ∧ drG zs rs pos p1 m = R ∧ Dr w base g a c zs v rs p1 wr ∧ drOK rs pos ∧ (2 ≤ pos ∧ pos ≤ 600)) (fun _ _ i _ _ => n - (intOf i).toNat)
  case atStart => exact ⟨[], 2 + a5, pS, n, by simp, rfl, rfl, HQ.out.symm, HD2.out, HOK0.out, by omega⟩
  case round =>
    obtain ⟨rs, pos, p1, m, hm, rfl, rfl, hR, hD, hok, hpb⟩ := hrel
    clear HD2 HOK0 HQ HPS hv0 wa
    obtain ⟨k, hkk⟩ : ∃ k, rs.length = k := ⟨_, rfl⟩
    obtain ⟨va, vc, hva, hvf⟩ := owns_form hD.own
    rw [hkk] at hva hm ⊢
    subst hva
    have HOK : Hid (drOK rs pos) := hok
    clear hok
    cases m with
    | zero =>
      have hki : ¬ (k : Int) < (n : Int) := by omega
      have hRe : R = (rs, p1) := by rw [← hR]; rfl
      have hlR : R.1.length = k := by rw [hRe]; exact hkk
      have hrd : RRead wr (.slice va k vc) R.1 := by
        have q := hD.own
        rw [hkk] at q
        have q2 := owns_R (rs := rs) (a := va) (c := vc) (base := w.heap.size) (W := wr) (by rw [hkk]; exact q)
        rw [hkk] at q2
        rw [hRe]
        exact q2
      have HEND : Hid (RRead wr (.slice va k vc) R.1 ∧ SrcX base g a c zs R.2 wr ∧ Frm (· = g) w wr) := ⟨hrd, by rw [hRe]; exact hD.src, hD.frm⟩
      have HLR : Hid (R.1.length = k) := hlR
      clear hR hD hRe hlR hrd
      go_wp2
      go_ret
      exact ⟨⟨va, vc, by rw [HLR.out]; rfl, by rw [HLR.out]; exact HEND.out.1, hvf⟩, HEND.out.2⟩
    | succ m =>
      have hki : (k : Int) < (n : Int) := by omega
      have HR : Hid (drG zs rs pos p1 (m + 1) = R) := hR
      have hvl := nxV_in zs p1 (n := 6) (by decide) (by decide)
      have hvc := nxV_in zs (nxS zs p1) (n := 3) (by decide) (by decide)
      have HLN0 : Hid (drL zs p1 = 1 + nxV zs p1 6) := rfl
      have HC00 : Hid (drC0 zs p1 = if nxV zs (nxS zs (nxS zs p1)) 15 = 0 then 65535 - nxV zs (nxS zs (nxS zs (nxS zs p1))) 2 else 1 + nxV zs (nxS zs p1) 3) := rfl
      have HPD0 : Hid (drP zs p1 = if nxV zs (nxS zs (nxS zs p1)) 15 = 0 then nxS zs (nxS zs (nxS zs (nxS zs p1))) else nxS zs (nxS zs (nxS zs p1))) := rfl
      clear hR
      go_wp2_with fail
      refine (l1Next_x base g a c zs p1 6 (by decide) (by decide) _ hD.src).mono ?_
      rintro e w3 ⟨rfl, hs3, hf3⟩
      have hD3 := hD.call hs3 hf3
      generalize nxV zs p1 6 = y6 at *
      have wl : IntKind.i64.wrap (1 + y6) = 1 + y6 := IntWalk.i64_in _ ⟨by omega, by omega⟩
      clear hD hs3 hf3
      go_wp2_with fail
      refine (l1Next_x base g a c zs _ 3 (by decide) (by decide) _ hD3.src).mono ?_
      rintro e w4 ⟨rfl, hs4, hf4⟩
      have hD4 := hD3.call hs4 hf4
      generalize nxV zs (nxS zs p1) 3 = y3 at *
      have wc : IntKind.i64.wrap (1 + y3) = 1 + y3 := IntWalk.i64_in _ ⟨by omega, by omega⟩
      clear hD3 hs4 hf4
      have HLN : Hid (drL zs p1 = 1 + y6) := HLN0.out
      have hlb : 1 ≤ 1 + y6 ∧ 1 + y6 ≤ 6 := by omega
      have hcb1 : 1 ≤ 1 + y3 ∧ 1 + y3 ≤ 3 := by omega
      have HE5 : Hid (Dx w base g a c zs (.slice va k vc) rs (nxS zs (nxS zs p1)) w4.heap.size (pos, 1 + y6, 1 + y3) (w4.alloc (.cells #[.int .i64 pos, .int .i64 (1 + y6), .int .i64 (1 + y3)] 78))) := Dx.new hD4 pos (1 + y6) (1 + y3)
      clear hD4 HLN0 hvl hvc
      go_wp2_with fail
      refine (l1Next_x base g a c zs _ 15 (by decide) (by decide) _ HE5.out.dr.src).mono ?_
      rintro e w5 ⟨rfl, hs5, hf5⟩
      have hE5 := HE5.out.call hs5 hf5
      generalize w4.heap.size = eb at *
      clear HE5 hs5 hf5 wl wc
      generalize 1 + y6 = ln at *
      generalize 1 + y3 = c1 at *
      generalize nxV zs (nxS zs (nxS zs p1)) 15 = y15 at *
      by_cases h15 : y15 = 0
      · have h15b : (y15 == 0) = true := by simpa using h15
        have hx2 := nxV_in zs (nxS zs (nxS zs (nxS zs p1))) (n := 2) (by decide) (by decide)
        have HE5 : Hid _ := hE5
        obtain ⟨e50, e51, e52, ef5⟩ := hE5.cells
        simp only at e50 e51 e52
        rw [if_pos h15] at HC00 HPD0
        clear hE5 h15
        go_wp2_with fail
        refine (l1Next_x base g a c zs _ 2 (by decide) (by decide) _ HE5.out.dr.src).mono ?_
        rintro e w6 ⟨rfl, hs6, hf6⟩
        have hE6 := HE5.out.call hs6 hf6
        generalize nxV zs (nxS zs (nxS zs (nxS zs p1))) 2 = y2 at *
        obtain ⟨c0, HCZ⟩ : ∃ c0, Hid (65535 - y2 = c0) := ⟨_, rfl⟩
        have w65 : IntKind.i64.wrap (65535 - y2) = c0 := (IntWalk.i64_in _ ⟨by omega, by omega⟩).trans HCZ.out
        have HC0 : Hid (drC0 zs p1 = c0) := by rw [Hid, HC00.out, HCZ.out]
        have hc0b : 1 ≤ c0 ∧ c0 ≤ 65535 := by have := HCZ.out; omega
        obtain ⟨pD, HPD⟩ : ∃ pD, Hid (drP zs p1 = pD) := ⟨_, rfl⟩
        rw [← HPD0.out, HPD.out] at hE6
        have HE6 : Hid _ := hE6
        clear e50 e51 e52 ef5 HE5 hs6 hf6 hE6 HC00 HPD0 HCZ
        obtain ⟨e60, e61, e62, ef6⟩ := HE6.out.cells
        simp only at e60 e61 e62
        go_upto_region 10 with fail
        have hE4 := HE6.out.set2 c0
        simp only at hE4
        clear e60 e61 e62 ef6 HE6 w65
        generalize w6.setCell ⟨eb, 2, none⟩ (.int .i64 c0) = W4 at *
        have HE4 : Hid (Dx w base g a c zs (.slice va k vc) rs pD eb (pos, ln, c0) W4) := hE4
        obtain ⟨e40, e41, e42, ef4⟩ := HE4.out.cells
        simp only at e40 e41 e42
        clear hE4
        by_cases h0 : k = 0
        · have hk0 : ¬ 0 < k := by omega
          obtain ⟨cc, HC⟩ : ∃ cc, Hid (drC zs rs pos p1 = cc) := ⟨_, rfl⟩
          have hcc : cc = c0 := by
            rw [← HC.out]
            unfold drC
            rw [if_neg (fun hh => by have := (drTb_iff.1 hh).1; omega), HC0.out]
          subst hcc
          clear h0
          go_quiet (fail)
          have hE6 : Dx w base g a c zs (.slice va k vc) rs pD eb (pos, ln, cc) (W4.drewN nq) := HE4.out.below (below_drewN (Below.refl _ _) _)
          clear e40 e41 e42 ef4 HE4
          generalize W4.drewN nq = W6 at *
          have HE6 : Hid (Dx w base g a c zs (.slice va k vc) rs pD eb (pos, ln, cc) W6) := hE6
          obtain ⟨e60, e61, e62, ef6⟩ := HE6.out.cells
          simp only at e60 e61 e62
          have ws1 : IntKind.i64.wrap (pos + ln) = pos + ln := IntWalk.i64_in _ ⟨by omega, by omega⟩
          clear hE6
          by_cases hst : 512 < pos + ln
          · have hRe : R = (rs, pD) := by rw [← HR.out, drG_stop (by rw [HLN.out]; exact hst), HPD.out]
            have hDR : Dr w base g a c zs (.slice va k vc) R.1 R.2 W6 := by rw [hRe]; exact HE6.out.dr
            have hlR : R.1.length = k := by rw [hRe]; exact hkk
            have hrd : RRead W6 (.slice va R.1.length vc) R.1 := by
              have q := hDR.own
              have q2 := owns_R (rs := R.1) (a := va) (c := vc) (base := w.heap.size) (W := W6) (by rw [hlR] at q ⊢; exact q)
              exact q2
            have HEND : Hid (RRead W6 (.slice va k vc) R.1 ∧ SrcX base g a c zs R.2 W6 ∧ Frm (· = g) w W6) := ⟨by rw [← hlR]; exact hrd, hDR.src, hDR.frm⟩
            have HLR : Hid (R.1.length = k) := hlR
            clear hRe hDR hlR hrd HR HE6
            go_wp2
            go_ret
            exact ⟨⟨va, vc, by rw [HLR.out]; rfl, by rw [HLR.out]; exact HEND.out.1, hvf⟩, HEND.out.2⟩
          · obtain ⟨W7, HW7⟩ : ∃ W7, Hid (W6.alloc (.cells #[.int .i64 pos, .int .i64 ln, .int .i64 cc] 78) = W7) := ⟨_, rfl⟩
            have hE7 := HE6.out.below (belowA W6 (.cells #[.int .i64 pos, .int .i64 ln, .int .i64 cc] 78))
            rw [HW7.out] at hE7
            have HNW : Hid (W7.heap[W6.heap.size]? = some (.cells #[.int .i64 pos, .int .i64 ln, .int .i64 cc] 78 (0, 0))) := by rw [← HW7.out]; exact heap_alloc_new _ _
            have HE7 : Hid (Dx w base g a c zs (.slice va k vc) rs pD eb (pos, ln, cc) W7) := hE7
            have HLB : Hid (w.heap.size ≤ W7.heap.size) := hE7.dr.frm.size
            have HOWN7 : Hid (W7.ownsRow w.heap.size 78 3 (.slice va k vc) k (rs.flatMap flat3)) := by have q := hE7.dr.own; rw [hkk] at q; exact q
            have HRN : Hid (drG zs (rs ++ [(pos, ln, cc)]) (pos + ln + nxV zs pD 4) (nxS zs pD) m = R) := by
              have q := drG_go (zs := zs) (rs := rs) (pos := pos) (p := p1) (m := m) (by rw [HLN.out]; exact hst)
              rw [HLN.out, HC.out, HPD.out] at q
              rw [Hid, ← HR.out, q]
            have HOKN : Hid (∀ d, 0 ≤ d → drOK (rs ++ [(pos, ln, cc)]) (pos + ln + d)) := fun d hd => by
              have q := drOK_snoc HOK.out (drL_in zs p1) (drC_in zs rs pos p1) (by rw [HLN.out]; omega) (fun h0 he => drC_ne zs rs pos p1 h0 he) d hd
              rw [HLN.out, HC.out] at q
              exact q
            clear hE7
            go_wp2_with (first | (at_builtin; rw [HW7.out]; refine wpList_appendG rfl _ _ 32 78 _ 3 24 Tryz.underlying32 infoRn3 rfl (by decide) rfl (base := w.heap.size) HOWN7.out rfl ⟨W6.heap.size, 0, none⟩ 1 1 rfl [.int .i64 pos, .int .i64 ln, .int .i64 cc] rfl (by intro j u hj; rw [Addr.add_mid, Nat.zero_add]; simpa [World.cell?, HNW.out] using hj) (fun u hm => List.all_eq_true.1 (show ([.int .i64 pos, .int .i64 ln, .int .i64 cc] : List Value).all (·.oneCell') = true from rfl) u hm) (by omega) (by omega) HLB.out ?_; intro v' w8 hown8 hgr8; obtain ⟨ya, yc, rfl, hyf⟩ := owns_form hown8) | go_in)
            have hgw := HE7.out.grown (x := (pos, ln, cc)) (ya := ya) (yc := yc) (W' := w8) (by rw [hkk]; exact hown8) hgr8
            rw [hkk] at hgw
            have HD8 : Hid (Dr w base g a c zs (.slice ya (k + 1) yc) (rs ++ [(pos, ln, cc)]) pD w8) := hgw.1
            have hb8 := hgw.2.trans HE7.out.ebx
            have e80 : w8.cell? ⟨eb, 0, none⟩ = some (.int .i64 pos) := (cell_of_row w8 eb 0 _ _ _ hb8).trans rfl
            have e81 : w8.cell? ⟨eb, 1, none⟩ = some (.int .i64 ln) := (cell_of_row w8 eb 1 _ _ _ hb8).trans rfl
            have HNX : Hid (Calls Tryz.prog 26 #[.pointer (some ⟨g, 0, none⟩), .int .i64 4] w8.drew fun e w' => e = .returned (.int .i64 (nxV zs pD 4)) ∧ SrcX base g a c zs (nxS zs pD) w' ∧ Frm (· = g) w8.drew w') := l1Next_x base g a c zs pD 4 (by decide) (by decide) _ (HD8.out.src.heap rfl)
            have hvi := nxV_in zs pD (n := 4) (by decide) (by decide)
            have HEB : Hid (eb < w8.heap.size ∧ eb ≠ g) := ⟨(Array.getElem?_eq_some_iff.1 hb8).1, by have := HE7.out.hge; have := HE7.out.dr.glt; omega⟩
            have HB8 : Hid _ := hb8
            clear e60 e61 e62 ef6 hb8 hgw hown8 hgr8 HE7 HE6 HOWN7 HLB HNW HW7
            go_wp2_with fail
            go_region_held3 (fun w' => w'.cell? ⟨eb, 0, none⟩ = some (.int .i64 pos) ∧ w'.cell? ⟨eb, 1, none⟩ = some (.int .i64 ln)) (first | go_keep | exact ⟨e80, e81⟩)
              ((go_at_call 26; refine HNX.out.mono ?_; rintro e w9 ⟨rfl, hs9, hf9⟩; have hb9 := (hf9.block eb HEB.out.1 HEB.out.2).trans HB8.out; have hk9 : w9.cell? ⟨eb, 0, none⟩ = some (.int .i64 pos) ∧ w9.cell? ⟨eb, 1, none⟩ = some (.int .i64 ln) := ⟨(cell_of_row w9 eb 0 _ _ _ hb9).trans rfl, (cell_of_row w9 eb 1 _ _ _ hb9).trans rfl⟩))
            have HD9 : Hid (Dr w base g a c zs (.slice ya (k + 1) yc) (rs ++ [(pos, ln, cc)]) (nxS zs pD) w9) := (HD8.out.call (W' := w8.drew) (HD8.out.src.heap rfl) ((Frm.refl _ _).drew)).call hs9 hf9
            generalize nxV zs pD 4 = d4 at *
            have ws2 : IntKind.i64.wrap (pos + ln + d4) = pos + ln + d4 := IntWalk.i64_in _ ⟨by omega, by omega⟩
            clear e80 e81 hb9 hk9 hs9 hf9 HB8 HD8 HNX
            go_wp2
            go_roundw
            case rel => exact ⟨rs ++ [(pos, ln, cc)], pos + ln + d4, _, m, by rw [List.length_append, hkk]; show k + 1 + m = n; omega, by rw [List.length_append, hkk]; first | rfl | go_num, by rw [ws2], HRN.out, HD9.out, HOKN.out d4 hvi.1, by omega⟩
            case measure => simp [intOf]; omega
        · obtain ⟨rb, hra, hrc⟩ := owns_cell (by have q := HE4.out.dr.own; rw [hkk] at q; exact q) (by omega)
          subst hra
          obtain ⟨lst, HLS⟩ : ∃ lst, Hid (rs.getD (k - 1) (0, 0, 0) = lst) := ⟨_, rfl⟩
          have hpc : ∀ j, j < 3 → W4.cell? ⟨rb, (k - 1) * 3 + j, none⟩ = (flat3 lst)[j]? := fun j hj => by
            rw [hrc _ (by omega), ← HLS.out]
            exact flat_at flat3 3 (fun _ => rfl) (0, 0, 0) rs (k - 1) j (by omega) hj
          have l0 := (hpc 0 (by omega)).trans (show (flat3 lst)[0]? = some (.int .i64 lst.1) from rfl)
          have l1 := (hpc 1 (by omega)).trans (show (flat3 lst)[1]? = some (.int .i64 lst.2.1) from rfl)
          have l2 := (hpc 2 (by omega)).trans (show (flat3 lst)[2]? = some (.int .i64 lst.2.2) from rfl)
          rw [Nat.add_zero] at l0
          have hin := (HOK.out.1.1 (k - 1) (by omega)).1
          rw [HLS.out] at hin
          obtain ⟨i1, i2, i3, i4⟩ := hin
          have HDT : Hid (∀ z, drTb rs pos z = true ↔ (lst.1 + lst.2.1 = pos ∧ lst.2.2 = z)) := fun z => by
            rw [drTb_iff]
            unfold drT
            rw [hkk, HLS.out]
            exact ⟨fun h => h.2, fun h => ⟨by omega, h⟩⟩
          have hw1 : IntKind.i64.wrap ((k : Int) - 1) = ((k - 1 : Nat) : Int) := (IntWalk.i64_in _ ⟨by omega, by omega⟩).trans (by omega)
          have hi1 : ((k - 1 : Nat) : Int) < (k : Int) := by omega
          have hk0 : 0 < k := by omega
          have ws0 : IntKind.i64.wrap (lst.1 + lst.2.1) = lst.1 + lst.2.1 := IntWalk.i64_in _ ⟨by omega, by omega⟩
          obtain ⟨x0, x1, x2⟩ := lst
          simp only at l0 l1 l2 ws0 i1 i2 i3 i4 HDT
          clear hrc hpc HLS
          generalize hk1 : k - 1 = k1 at *
          clear hk1
          obtain ⟨va, HVA⟩ : ∃ va : Option Addr, Hid (some ⟨rb, 0, none⟩ = va) := ⟨_, rfl⟩
          by_cases hsum : x0 + x1 = pos
          · have hsb : (x0 + x1 == pos) = true := by simpa using hsum
            by_cases hcnt : x2 = c0
            · have hcb : (x2 == c0) = true := by simpa using hcnt
              obtain ⟨cc, HC⟩ : ∃ cc, Hid (drC zs rs pos p1 = cc) := ⟨_, rfl⟩
              have hcc : cc = 1 + c0 % 7 := by
                rw [← HC.out]
                unfold drC
                rw [HC0.out, if_pos ((HDT.out c0).2 ⟨hsum, hcnt⟩)]
              have wm1 : IntKind.i64.wrap (c0.tmod 7) = c0.tmod 7 := by rw [Int.tmod_eq_emod_of_nonneg (by omega)]; exact IntWalk.i64_in _ ⟨by omega, by omega⟩
              have wm2 : IntKind.i64.wrap (1 + c0 % 7) = 1 + c0 % 7 := IntWalk.i64_in _ ⟨by omega, by omega⟩
              clear hsum hcnt HDT
              go_quiet (fail)
              have hE5 : Dx w base g a c zs (.slice (some ⟨rb, 0, none⟩) k vc) rs pD eb (pos, ln, c0) (W4.drewN nq) := HE4.out.below (below_drewN (Below.refl _ _) _)
              clear e40 e41 e42 ef4 HE4 l0 l1 l2
              generalize W4.drewN nq = W5 at *
              obtain ⟨e50, e51, e52, ef5⟩ := hE5.cells
              simp only at e50 e51 e52
              have HE5 : Hid _ := hE5
              have HCC : Hid (cc = 1 + c0 % 7) := hcc
              clear hE5 hcc
              go_upto_region 12 with fail
              rw [← HCC.out]
              have hE6 := HE5.out.set2 cc
              simp only at hE6
              clear e50 e51 e52 ef5 HE5 wm1 wm2 HCC
              generalize W5.setCell ⟨eb, 2, none⟩ (.int .i64 cc) = W6 at *
              rw [HVA.out] at hE6 hvf ⊢
              have HE6 : Hid (Dx w base g a c zs (.slice va k vc) rs pD eb (pos, ln, cc) W6) := hE6
              obtain ⟨e60, e61, e62, ef6⟩ := HE6.out.cells
              simp only at e60 e61 e62
              have ws1 : IntKind.i64.wrap (pos + ln) = pos + ln := IntWalk.i64_in _ ⟨by omega, by omega⟩
              clear hE6
              by_cases hst : 512 < pos + ln
              · have hRe : R = (rs, pD) := by rw [← HR.out, drG_stop (by rw [HLN.out]; exact hst), HPD.out]
                have hDR : Dr w base g a c zs (.slice va k vc) R.1 R.2 W6 := by rw [hRe]; exact HE6.out.dr
                have hlR : R.1.length = k := by rw [hRe]; exact hkk
                have hrd : RRead W6 (.slice va R.1.length vc) R.1 := by
                  have q := hDR.own
                  have q2 := owns_R (rs := R.1) (a := va) (c := vc) (base := w.heap.size) (W := W6) (by rw [hlR] at q ⊢; exact q)
                  exact q2
                have HEND : Hid (RRead W6 (.slice va k vc) R.1 ∧ SrcX base g a c zs R.2 W6 ∧ Frm (· = g) w W6) := ⟨by rw [← hlR]; exact hrd, hDR.src, hDR.frm⟩
                have HLR : Hid (R.1.length = k) := hlR
                clear hRe hDR hlR hrd HR HE6
                go_wp2
                go_ret
                exact ⟨⟨va, vc, by rw [HLR.out]; rfl, by rw [HLR.out]; exact HEND.out.1, hvf⟩, HEND.out.2⟩
              · obtain ⟨W7, HW7⟩ : ∃ W7, Hid (W6.alloc (.cells #[.int .i64 pos, .int .i64 ln, .int .i64 cc] 78) = W7) := ⟨_, rfl⟩
                have hE7 := HE6.out.below (belowA W6 (.cells #[.int .i64 pos, .int .i64 ln, .int .i64 cc] 78))
                rw [HW7.out] at hE7
                have HNW : Hid (W7.heap[W6.heap.size]? = some (.cells #[.int .i64 pos, .int .i64 ln, .int .i64 cc] 78 (0, 0))) := by rw [← HW7.out]; exact heap_alloc_new _ _
                have HE7 : Hid (Dx w base g a c zs (.slice va k vc) rs pD eb (pos, ln, cc) W7) := hE7
                have HLB : Hid (w.heap.size ≤ W7.heap.size) := hE7.dr.frm.size
                have HOWN7 : Hid (W7.ownsRow w.heap.size 78 3 (.slice va k vc) k (rs.flatMap flat3)) := by have q := hE7.dr.own; rw [hkk] at q; exact q
                have HRN : Hid (drG zs (rs ++ [(pos, ln, cc)]) (pos + ln + nxV zs pD 4) (nxS zs pD) m = R) := by
                  have q := drG_go (zs := zs) (rs := rs) (pos := pos) (p := p1) (m := m) (by rw [HLN.out]; exact hst)
                  rw [HLN.out, HC.out, HPD.out] at q
                  rw [Hid, ← HR.out, q]
                have HOKN : Hid (∀ d, 0 ≤ d → drOK (rs ++ [(pos, ln, cc)]) (pos + ln + d)) := fun d hd => by
                  have q := drOK_snoc HOK.out (drL_in zs p1) (drC_in zs rs pos p1) (by rw [HLN.out]; omega) (fun h0 he => drC_ne zs rs pos p1 h0 he) d hd
                  rw [HLN.out, HC.out] at q
                  exact q
                clear hE7
                go_wp2_with (first | (at_builtin; rw [HW7.out]; refine wpList_appendG rfl _ _ 32 78 _ 3 24 Tryz.underlying32 infoRn3 rfl (by decide) rfl (base := w.heap.size) HOWN7.out rfl ⟨W6.heap.size, 0, none⟩ 1 1 rfl [.int .i64 pos, .int .i64 ln, .int .i64 cc] rfl (by intro j u hj; rw [Addr.add_mid, Nat.zero_add]; simpa [World.cell?, HNW.out] using hj) (fun u hm => List.all_eq_true.1 (show ([.int .i64 pos, .int .i64 ln, .int .i64 cc] : List Value).all (·.oneCell') = true from rfl) u hm) (by omega) (by omega) HLB.out ?_; intro v' w8 hown8 hgr8; obtain ⟨ya, yc, rfl, hyf⟩ := owns_form hown8) | go_in)
                have hgw := HE7.out.grown (x := (pos, ln, cc)) (ya := ya) (yc := yc) (W' := w8) (by rw [hkk]; exact hown8) hgr8
                rw [hkk] at hgw
                have HD8 : Hid (Dr w base g a c zs (.slice ya (k + 1) yc) (rs ++ [(pos, ln, cc)]) pD w8) := hgw.1
                have hb8 := hgw.2.trans HE7.out.ebx
                have e80 : w8.cell? ⟨eb, 0, none⟩ = some (.int .i64 pos) := (cell_of_row w8 eb 0 _ _ _ hb8).trans rfl
                have e81 : w8.cell? ⟨eb, 1, none⟩ = some (.int .i64 ln) := (cell_of_row w8 eb 1 _ _ _ hb8).trans rfl
                have HNX : Hid (Calls Tryz.prog 26 #[.pointer (some ⟨g, 0, none⟩), .int .i64 4] w8.drew fun e w' => e = .returned (.int .i64 (nxV zs pD 4)) ∧ SrcX base g a c zs (nxS zs pD) w' ∧ Frm (· = g) w8.drew w') := l1Next_x base g a c zs pD 4 (by decide) (by decide) _ (HD8.out.src.heap rfl)
                have hvi := nxV_in zs pD (n := 4) (by decide) (by decide)
                have HEB : Hid (eb < w8.heap.size ∧ eb ≠ g) := ⟨(Array.getElem?_eq_some_iff.1 hb8).1, by have := HE7.out.hge; have := HE7.out.dr.glt; omega⟩
                have HB8 : Hid _ := hb8
                clear e60 e61 e62 ef6 hb8 hgw hown8 hgr8 HE7 HE6 HOWN7 HLB HNW HW7
                go_wp2_with fail
                go_region_held3 (fun w' => w'.cell? ⟨eb, 0, none⟩ = some (.int .i64 pos) ∧ w'.cell? ⟨eb, 1, none⟩ = some (.int .i64 ln)) (first | go_keep | exact ⟨e80, e81⟩)
                  ((go_at_call 26; refine HNX.out.mono ?_; rintro e w9 ⟨rfl, hs9, hf9⟩; have hb9 := (hf9.block eb HEB.out.1 HEB.out.2).trans HB8.out; have hk9 : w9.cell? ⟨eb, 0, none⟩ = some (.int .i64 pos) ∧ w9.cell? ⟨eb, 1, none⟩ = some (.int .i64 ln) := ⟨(cell_of_row w9 eb 0 _ _ _ hb9).trans rfl, (cell_of_row w9 eb 1 _ _ _ hb9).trans rfl⟩))
                have HD9 : Hid (Dr w base g a c zs (.slice ya (k + 1) yc) (rs ++ [(pos, ln, cc)]) (nxS zs pD) w9) := (HD8.out.call (W' := w8.drew) (HD8.out.src.heap rfl) ((Frm.refl _ _).drew)).call hs9 hf9
                generalize nxV zs pD 4 = d4 at *
                have ws2 : IntKind.i64.wrap (pos + ln + d4) = pos + ln + d4 := IntWalk.i64_in _ ⟨by omega, by omega⟩
                clear e80 e81 hb9 hk9 hs9 hf9 HB8 HD8 HNX
                go_wp2
                go_roundw
                case rel => exact ⟨rs ++ [(pos, ln, cc)], pos + ln + d4, _, m, by rw [List.length_append, hkk]; show k + 1 + m = n; omega, by rw [List.length_append, hkk]; first | rfl | go_num, by rw [ws2], HRN.out, HD9.out, HOKN.out d4 hvi.1, by omega⟩
                case measure => simp [intOf]; omega
            · have hcb : (x2 == c0) = false := by simpa using hcnt
              obtain ⟨cc, HC⟩ : ∃ cc, Hid (drC zs rs pos p1 = cc) := ⟨_, rfl⟩
              have hcc : cc = c0 := by
                rw [← HC.out]
                unfold drC
                rw [HC0.out, if_neg (fun hh => hcnt ((HDT.out c0).1 hh).2)]
              subst hcc
              clear hsum hcnt HDT
              go_quiet (fail)
              have hE6 : Dx w base g a c zs (.slice (some ⟨rb, 0, none⟩) k vc) rs pD eb (pos, ln, cc) (W4.drewN nq) := HE4.out.below (below_drewN (Below.refl _ _) _)
              clear e40 e41 e42 ef4 HE4 l0 l1 l2
              generalize W4.drewN nq = W6 at *
              rw [HVA.out] at hE6 hvf ⊢
              have HE6 : Hid (Dx w base g a c zs (.slice va k vc) rs pD eb (pos, ln, cc) W6) := hE6
              obtain ⟨e60, e61, e62, ef6⟩ := HE6.out.cells
              simp only at e60 e61 e62
              have ws1 : IntKind.i64.wrap (pos + ln) = pos + ln := IntWalk.i64_in _ ⟨by omega, by omega⟩
              clear hE6
              by_cases hst : 512 < pos + ln
              · have hRe : R = (rs, pD) := by rw [← HR.out, drG_stop (by rw [HLN.out]; exact hst), HPD.out]
                have hDR : Dr w base g a c zs (.slice va k vc) R.1 R.2 W6 := by rw [hRe]; exact HE6.out.dr
                have hlR : R.1.length = k := by rw [hRe]; exact hkk
                have hrd : RRead W6 (.slice va R.1.length vc) R.1 := by
                  have q := hDR.own
                  have q2 := owns_R (rs := R.1) (a := va) (c := vc) (base := w.heap.size) (W := W6) (by rw [hlR] at q ⊢; exact q)
                  exact q2
                have HEND : Hid (RRead W6 (.slice va k vc) R.1 ∧ SrcX base g a c zs R.2 W6 ∧ Frm (· = g) w W6) := ⟨by rw [← hlR]; exact hrd, hDR.src, hDR.frm⟩
                have HLR : Hid (R.1.length = k) := hlR
                clear hRe hDR hlR hrd HR HE6
                go_wp2
                go_ret
                exact ⟨⟨va, vc, by rw [HLR.out]; rfl, by rw [HLR.out]; exact HEND.out.1, hvf⟩, HEND.out.2⟩
              · obtain ⟨W7, HW7⟩ : ∃ W7, Hid (W6.alloc (.cells #[.int .i64 pos, .int .i64 ln, .int .i64 cc] 78) = W7) := ⟨_, rfl⟩
                have hE7 := HE6.out.below (belowA W6 (.cells #[.int .i64 pos, .int .i64 ln, .int .i64 cc] 78))
                rw [HW7.out] at hE7
                have HNW : Hid (W7.heap[W6.heap.size]? = some (.cells #[.int .i64 pos, .int .i64 ln, .int .i64 cc] 78 (0, 0))) := by rw [← HW7.out]; exact heap_alloc_new _ _
                have HE7 : Hid (Dx w base g a c zs (.slice va k vc) rs pD eb (pos, ln, cc) W7) := hE7
                have HLB : Hid (w.heap.size ≤ W7.heap.size) := hE7.dr.frm.size
                have HOWN7 : Hid (W7.ownsRow w.heap.size 78 3 (.slice va k vc) k (rs.flatMap flat3)) := by have q := hE7.dr.own; rw [hkk] at q; exact q
                have HRN : Hid (drG zs (rs ++ [(pos, ln, cc)]) (pos + ln + nxV zs pD 4) (nxS zs pD) m = R) := by
                  have q := drG_go (zs := zs) (rs := rs) (pos := pos) (p := p1) (m := m) (by rw [HLN.out]; exact hst)
                  rw [HLN.out, HC.out, HPD.out] at q
                  rw [Hid, ← HR.out, q]
                have HOKN : Hid (∀ d, 0 ≤ d → drOK (rs ++ [(pos, ln, cc)]) (pos + ln + d)) := fun d hd => by
                  have q := drOK_snoc HOK.out (drL_in zs p1) (drC_in zs rs pos p1) (by rw [HLN.out]; omega) (fun h0 he => drC_ne zs rs pos p1 h0 he) d hd
                  rw [HLN.out, HC.out] at q
                  exact q
                clear hE7
                go_wp2_with (first | (at_builtin; rw [HW7.out]; refine wpList_appendG rfl _ _ 32 78 _ 3 24 Tryz.underlying32 infoRn3 rfl (by decide) rfl (base := w.heap.size) HOWN7.out rfl ⟨W6.heap.size, 0, none⟩ 1 1 rfl [.int .i64 pos, .int .i64 ln, .int .i64 cc] rfl (by intro j u hj; rw [Addr.add_mid, Nat.zero_add]; simpa [World.cell?, HNW.out] using hj) (fun u hm => List.all_eq_true.1 (show ([.int .i64 pos, .int .i64 ln, .int .i64 cc] : List Value).all (·.oneCell') = true from rfl) u hm) (by omega) (by omega) HLB.out ?_; intro v' w8 hown8 hgr8; obtain ⟨ya, yc, rfl, hyf⟩ := owns_form hown8) | go_in)
                have hgw := HE7.out.grown (x := (pos, ln, cc)) (ya := ya) (yc := yc) (W' := w8) (by rw [hkk]; exact hown8) hgr8
                rw [hkk] at hgw
                have HD8 : Hid (Dr w base g a c zs (.slice ya (k + 1) yc) (rs ++ [(pos, ln, cc)]) pD w8) := hgw.1
                have hb8 := hgw.2.trans HE7.out.ebx
                have e80 : w8.cell? ⟨eb, 0, none⟩ = some (.int .i64 pos) := (cell_of_row w8 eb 0 _ _ _ hb8).trans rfl
                have e81 : w8.cell? ⟨eb, 1, none⟩ = some (.int .i64 ln) := (cell_of_row w8 eb 1 _ _ _ hb8).trans rfl
                have HNX : Hid (Calls Tryz.prog 26 #[.pointer (some ⟨g, 0, none⟩), .int .i64 4] w8.drew fun e w' => e = .returned (.int .i64 (nxV zs pD 4)) ∧ SrcX base g a c zs (nxS zs pD) w' ∧ Frm (· = g) w8.drew w') := l1Next_x base g a c zs pD 4 (by decide) (by decide) _ (HD8.out.src.heap rfl)
                have hvi := nxV_in zs pD (n := 4) (by decide) (by decide)
                have HEB : Hid (eb < w8.heap.size ∧ eb ≠ g) := ⟨(Array.getElem?_eq_some_iff.1 hb8).1, by have := HE7.out.hge; have := HE7.out.dr.glt; omega⟩
                have HB8 : Hid _ := hb8
                clear e60 e61 e62 ef6 hb8 hgw hown8 hgr8 HE7 HE6 HOWN7 HLB HNW HW7
                go_wp2_with fail
                go_region_held3 (fun w' => w'.cell? ⟨eb, 0, none⟩ = some (.int .i64 pos) ∧ w'.cell? ⟨eb, 1, none⟩ = some (.int .i64 ln)) (first | go_keep | exact ⟨e80, e81⟩)
                  ((go_at_call 26; refine HNX.out.mono ?_; rintro e w9 ⟨rfl, hs9, hf9⟩; have hb9 := (hf9.block eb HEB.out.1 HEB.out.2).trans HB8.out; have hk9 : w9.cell? ⟨eb, 0, none⟩ = some (.int .i64 pos) ∧ w9.cell? ⟨eb, 1, none⟩ = some (.int .i64 ln) := ⟨(cell_of_row w9 eb 0 _ _ _ hb9).trans rfl, (cell_of_row w9 eb 1 _ _ _ hb9).trans rfl⟩))
                have HD9 : Hid (Dr w base g a c zs (.slice ya (k + 1) yc) (rs ++ [(pos, ln, cc)]) (nxS zs pD) w9) := (HD8.out.call (W' := w8.drew) (HD8.out.src.heap rfl) ((Frm.refl _ _).drew)).call hs9 hf9
                generalize nxV zs pD 4 = d4 at *
                have ws2 : IntKind.i64.wrap (pos + ln + d4) = pos + ln + d4 := IntWalk.i64_in _ ⟨by omega, by omega⟩
                clear e80 e81 hb9 hk9 hs9 hf9 HB8 HD8 HNX
                go_wp2
                go_roundw
                case rel => exact ⟨rs ++ [(pos, ln, cc)], pos + ln + d4, _, m, by rw [List.length_append, hkk]; show k + 1 + m = n; omega, by rw [List.length_append, hkk]; first | rfl | go_num, by rw [ws2], HRN.out, HD9.out, HOKN.out d4 hvi.1, by omega⟩
                case measure => simp [intOf]; omega
          · have hsb : (x0 + x1 == pos) = false := by simpa using hsum
            obtain ⟨cc, HC⟩ : ∃ cc, Hid (drC zs rs pos p1 = cc) := ⟨_, rfl⟩
            have hcc : cc = c0 := by
              rw [← HC.out]
              unfold drC
              rw [HC0.out, if_neg (fun hh => hsum ((HDT.out c0).1 hh).1)]
            subst hcc
            clear hsum HDT
            go_quiet (fail)
            have hE6 : Dx w base g a c zs (.slice (some ⟨rb, 0, none⟩) k vc) rs pD eb (pos, ln, cc) (W4.drewN nq) := HE4.out.below (below_drewN (Below.refl _ _) _)
            clear e40 e41 e42 ef4 HE4 l0 l1 l2
            generalize W4.drewN nq = W6 at *
            rw [HVA.out] at hE6 hvf ⊢
            have HE6 : Hid (Dx w base g a c zs (.slice va k vc) rs pD eb (pos, ln, cc) W6) := hE6
            obtain ⟨e60, e61, e62, ef6⟩ := HE6.out.cells
            simp only at e60 e61 e62
            have ws1 : IntKind.i64.wrap (pos + ln) = pos + ln := IntWalk.i64_in _ ⟨by omega, by omega⟩
            clear hE6
            by_cases hst : 512 < pos + ln
            · have hRe : R = (rs, pD) := by rw [← HR.out, drG_stop (by rw [HLN.out]; exact hst), HPD.out]
              have hDR : Dr w base g a c zs (.slice va k vc) R.1 R.2 W6 := by rw [hRe]; exact HE6.out.dr
              have hlR : R.1.length = k := by rw [hRe]; exact hkk
              have hrd : RRead W6 (.slice va R.1.length vc) R.1 := by
                have q := hDR.own
                have q2 := owns_R (rs := R.1) (a := va) (c := vc) (base := w.heap.size) (W := W6) (by rw [hlR] at q ⊢; exact q)
                exact q2
              have HEND : Hid (RRead W6 (.slice va k vc) R.1 ∧ SrcX base g a c zs R.2 W6 ∧ Frm (· = g) w W6) := ⟨by rw [← hlR]; exact hrd, hDR.src, hDR.frm⟩
              have HLR : Hid (R.1.length = k) := hlR
              clear hRe hDR hlR hrd HR HE6
              go_wp2
              go_ret
              exact ⟨⟨va, vc, by rw [HLR.out]; rfl, by rw [HLR.out]; exact HEND.out.1, hvf⟩, HEND.out.2⟩
            · obtain ⟨W7, HW7⟩ : ∃ W7, Hid (W6.alloc (.cells #[.int .i64 pos, .int .i64 ln, .int .i64 cc] 78) = W7) := ⟨_, rfl⟩
              have hE7 := HE6.out.below (belowA W6 (.cells #[.int .i64 pos, .int .i64 ln, .int .i64 cc] 78))
              rw [HW7.out] at hE7
              have HNW : Hid (W7.heap[W6.heap.size]? = some (.cells #[.int .i64 pos, .int .i64 ln, .int .i64 cc] 78 (0, 0))) := by rw [← HW7.out]; exact heap_alloc_new _ _
              have HE7 : Hid (Dx w base g a c zs (.slice va k vc) rs pD eb (pos, ln, cc) W7) := hE7
              have HLB : Hid (w.heap.size ≤ W7.heap.size) := hE7.dr.frm.size
              have HOWN7 : Hid (W7.ownsRow w.heap.size 78 3 (.slice va k vc) k (rs.flatMap flat3)) := by have q := hE7.dr.own; rw [hkk] at q; exact q
              have HRN : Hid (drG zs (rs ++ [(pos, ln, cc)]) (pos + ln + nxV zs pD 4) (nxS zs pD) m = R) := by
                have q := drG_go (zs := zs) (rs := rs) (pos := pos) (p := p1) (m := m) (by rw [HLN.out]; exact hst)
                rw [HLN.out, HC.out, HPD.out] at q
                rw [Hid, ← HR.out, q]
              have HOKN : Hid (∀ d, 0 ≤ d → drOK (rs ++ [(pos, ln, cc)]) (pos + ln + d)) := fun d hd => by
                have q := drOK_snoc HOK.out (drL_in zs p1) (drC_in zs rs pos p1) (by rw [HLN.out]; omega) (fun h0 he => drC_ne zs rs pos p1 h0 he) d hd
                rw [HLN.out, HC.out] at q
                exact q
              clear hE7
              go_wp2_with (first | (at_builtin; rw [HW7.out]; refine wpList_appendG rfl _ _ 32 78 _ 3 24 Tryz.underlying32 infoRn3 rfl (by decide) rfl (base := w.heap.size) HOWN7.out rfl ⟨W6.heap.size, 0, none⟩ 1 1 rfl [.int .i64 pos, .int .i64 ln, .int .i64 cc] rfl (by intro j u hj; rw [Addr.add_mid, Nat.zero_add]; simpa [World.cell?, HNW.out] using hj) (fun u hm => List.all_eq_true.1 (show ([.int .i64 pos, .int .i64 ln, .int .i64 cc] : List Value).all (·.oneCell') = true from rfl) u hm) (by omega) (by omega) HLB.out ?_; intro v' w8 hown8 hgr8; obtain ⟨ya, yc, rfl, hyf⟩ := owns_form hown8) | go_in)
              have hgw := HE7.out.grown (x := (pos, ln, cc)) (ya := ya) (yc := yc) (W' := w8) (by rw [hkk]; exact hown8) hgr8
              rw [hkk] at hgw
              have HD8 : Hid (Dr w base g a c zs (.slice ya (k + 1) yc) (rs ++ [(pos, ln, cc)]) pD w8) := hgw.1
              have hb8 := hgw.2.trans HE7.out.ebx
              have e80 : w8.cell? ⟨eb, 0, none⟩ = some (.int .i64 pos) := (cell_of_row w8 eb 0 _ _ _ hb8).trans rfl
              have e81 : w8.cell? ⟨eb, 1, none⟩ = some (.int .i64 ln) := (cell_of_row w8 eb 1 _ _ _ hb8).trans rfl
              have HNX : Hid (Calls Tryz.prog 26 #[.pointer (some ⟨g, 0, none⟩), .int .i64 4] w8.drew fun e w' => e = .returned (.int .i64 (nxV zs pD 4)) ∧ SrcX base g a c zs (nxS zs pD) w' ∧ Frm (· = g) w8.drew w') := l1Next_x base g a c zs pD 4 (by decide) (by decide) _ (HD8.out.src.heap rfl)
              have hvi := nxV_in zs pD (n := 4) (by decide) (by decide)
              have HEB : Hid (eb < w8.heap.size ∧ eb ≠ g) := ⟨(Array.getElem?_eq_some_iff.1 hb8).1, by have := HE7.out.hge; have := HE7.out.dr.glt; omega⟩
              have HB8 : Hid _ := hb8
              clear e60 e61 e62 ef6 hb8 hgw hown8 hgr8 HE7 HE6 HOWN7 HLB HNW HW7
              go_wp2_with fail
              go_region_held3 (fun w' => w'.cell? ⟨eb, 0, none⟩ = some (.int .i64 pos) ∧ w'.cell? ⟨eb, 1, none⟩ = some (.int .i64 ln)) (first | go_keep | exact ⟨e80, e81⟩)
                ((go_at_call 26; refine HNX.out.mono ?_; rintro e w9 ⟨rfl, hs9, hf9⟩; have hb9 := (hf9.block eb HEB.out.1 HEB.out.2).trans HB8.out; have hk9 : w9.cell? ⟨eb, 0, none⟩ = some (.int .i64 pos) ∧ w9.cell? ⟨eb, 1, none⟩ = some (.int .i64 ln) := ⟨(cell_of_row w9 eb 0 _ _ _ hb9).trans rfl, (cell_of_row w9 eb 1 _ _ _ hb9).trans rfl⟩))
              have HD9 : Hid (Dr w base g a c zs (.slice ya (k + 1) yc) (rs ++ [(pos, ln, cc)]) (nxS zs pD) w9) := (HD8.out.call (W' := w8.drew) (HD8.out.src.heap rfl) ((Frm.refl _ _).drew)).call hs9 hf9
              generalize nxV zs pD 4 = d4 at *
              have ws2 : IntKind.i64.wrap (pos + ln + d4) = pos + ln + d4 := IntWalk.i64_in _ ⟨by omega, by omega⟩
              clear e80 e81 hb9 hk9 hs9 hf9 HB8 HD8 HNX
              go_wp2
              go_roundw
              case rel => exact ⟨rs ++ [(pos, ln, cc)], pos + ln + d4, _, m, by rw [List.length_append, hkk]; show k + 1 + m = n; omega, by rw [List.length_append, hkk]; first | rfl | go_num, by rw [ws2], HRN.out, HD9.out, HOKN.out d4 hvi.1, by omega⟩
              case measure => simp [intOf]; omega
      · have h15b : (y15 == 0) = false := by simpa using h15
        rw [if_neg h15] at HC00 HPD0
        have HC0 : Hid (drC0 zs p1 = c1) := HC00.out
        obtain ⟨pD, HPD⟩ : ∃ pD, Hid (drP zs p1 = pD) := ⟨_, rfl⟩
        rw [← HPD0.out, HPD.out] at hE5
        have hE4 := hE5
        clear hE5 HC00 HPD0 h15
        generalize c1 = c0 at *
        have hc0b : 1 ≤ c0 ∧ c0 ≤ 65535 := by omega
        go_upto_region 10 with fail
        generalize w5 = W4 at *
        have HE4 : Hid (Dx w base g a c zs (.slice va k vc) rs pD eb (pos, ln, c0) W4) := hE4
        obtain ⟨e40, e41, e42, ef4⟩ := HE4.out.cells
        simp only at e40 e41 e42
        clear hE4
        by_cases h0 : k = 0
        · have hk0 : ¬ 0 < k := by omega
          obtain ⟨cc, HC⟩ : ∃ cc, Hid (drC zs rs pos p1 = cc) := ⟨_, rfl⟩
          have hcc : cc = c0 := by
            rw [← HC.out]
            unfold drC
            rw [if_neg (fun hh => by have := (drTb_iff.1 hh).1; omega), HC0.out]
          subst hcc
          clear h0
          go_quiet (fail)
          have hE6 : Dx w base g a c zs (.slice va k vc) rs pD eb (pos, ln, cc) (W4.drewN nq) := HE4.out.below (below_drewN (Below.refl _ _) _)
          clear e40 e41 e42 ef4 HE4
          generalize W4.drewN nq = W6 at *
          have HE6 : Hid (Dx w base g a c zs (.slice va k vc) rs pD eb (pos, ln, cc) W6) := hE6
          obtain ⟨e60, e61, e62, ef6⟩ := HE6.out.cells
          simp only at e60 e61 e62
          have ws1 : IntKind.i64.wrap (pos + ln) = pos + ln := IntWalk.i64_in _ ⟨by omega, by omega⟩
          clear hE6
          by_cases hst : 512 < pos + ln
          · have hRe : R = (rs, pD) := by rw [← HR.out, drG_stop (by rw [HLN.out]; exact hst), HPD.out]
            have hDR : Dr w base g a c zs (.slice va k vc) R.1 R.2 W6 := by rw [hRe]; exact HE6.out.dr
            have hlR : R.1.length = k := by rw [hRe]; exact hkk
            have hrd : RRead W6 (.slice va R.1.length vc) R.1 := by
              have q := hDR.own
              have q2 := owns_R (rs := R.1) (a := va) (c := vc) (base := w.heap.size) (W := W6) (by rw [hlR] at q ⊢; exact q)
              exact q2
            have HEND : Hid (RRead W6 (.slice va k vc) R.1 ∧ SrcX base g a c zs R.2 W6 ∧ Frm (· = g) w W6) := ⟨by rw [← hlR]; exact hrd, hDR.src, hDR.frm⟩
            have HLR : Hid (R.1.length = k) := hlR
            clear hRe hDR hlR hrd HR HE6
            go_wp2
            go_ret
            exact ⟨⟨va, vc, by rw [HLR.out]; rfl, by rw [HLR.out]; exact HEND.out.1, hvf⟩, HEND.out.2⟩
          · obtain ⟨W7, HW7⟩ : ∃ W7, Hid (W6.alloc (.cells #[.int .i64 pos, .int .i64 ln, .int .i64 cc] 78) = W7) := ⟨_, rfl⟩
            have hE7 := HE6.out.below (belowA W6 (.cells #[.int .i64 pos, .int .i64 ln, .int .i64 cc] 78))
            rw [HW7.out] at hE7
            have HNW : Hid (W7.heap[W6.heap.size]? = some (.cells #[.int .i64 pos, .int .i64 ln, .int .i64 cc] 78 (0, 0))) := by rw [← HW7.out]; exact heap_alloc_new _ _
            have HE7 : Hid (Dx w base g a c zs (.slice va k vc) rs pD eb (pos, ln, cc) W7) := hE7
            have HLB : Hid (w.heap.size ≤ W7.heap.size) := hE7.dr.frm.size
            have HOWN7 : Hid (W7.ownsRow w.heap.size 78 3 (.slice va k vc) k (rs.flatMap flat3)) := by have q := hE7.dr.own; rw [hkk] at q; exact q
            have HRN : Hid (drG zs (rs ++ [(pos, ln, cc)]) (pos + ln + nxV zs pD 4) (nxS zs pD) m = R) := by
              have q := drG_go (zs := zs) (rs := rs) (pos := pos) (p := p1) (m := m) (by rw [HLN.out]; exact hst)
              rw [HLN.out, HC.out, HPD.out] at q
              rw [Hid, ← HR.out, q]
            have HOKN : Hid (∀ d, 0 ≤ d → drOK (rs ++ [(pos, ln, cc)]) (pos + ln + d)) := fun d hd => by
              have q := drOK_snoc HOK.out (drL_in zs p1) (drC_in zs rs pos p1) (by rw [HLN.out]; omega) (fun h0 he => drC_ne zs rs pos p1 h0 he) d hd
              rw [HLN.out, HC.out] at q
              exact q
            clear hE7
            go_wp2_with (first | (at_builtin; rw [HW7.out]; refine wpList_appendG rfl _ _ 32 78 _ 3 24 Tryz.underlying32 infoRn3 rfl (by decide) rfl (base := w.heap.size) HOWN7.out rfl ⟨W6.heap.size, 0, none⟩ 1 1 rfl [.int .i64 pos, .int .i64 ln, .int .i64 cc] rfl (by intro j u hj; rw [Addr.add_mid, Nat.zero_add]; simpa [World.cell?, HNW.out] using hj) (fun u hm => List.all_eq_true.1 (show ([.int .i64 pos, .int .i64 ln, .int .i64 cc] : List Value).all (·.oneCell') = true from rfl) u hm) (by omega) (by omega) HLB.out ?_; intro v' w8 hown8 hgr8; obtain ⟨ya, yc, rfl, hyf⟩ := owns_form hown8) | go_in)
            have hgw := HE7.out.grown (x := (pos, ln, cc)) (ya := ya) (yc := yc) (W' := w8) (by rw [hkk]; exact hown8) hgr8
            rw [hkk] at hgw
            have HD8 : Hid (Dr w base g a c zs (.slice ya (k + 1) yc) (rs ++ [(pos, ln, cc)]) pD w8) := hgw.1
            have hb8 := hgw.2.trans HE7.out.ebx
            have e80 : w8.cell? ⟨eb, 0, none⟩ = some (.int .i64 pos) := (cell_of_row w8 eb 0 _ _ _ hb8).trans rfl
            have e81 : w8.cell? ⟨eb, 1, none⟩ = some (.int .i64 ln) := (cell_of_row w8 eb 1 _ _ _ hb8).trans rfl
            have HNX : Hid (Calls Tryz.prog 26 #[.pointer (some ⟨g, 0, none⟩), .int .i64 4] w8.drew fun e w' => e = .returned (.int .i64 (nxV zs pD 4)) ∧ SrcX base g a c zs (nxS zs pD) w' ∧ Frm (· = g) w8.drew w') := l1Next_x base g a c zs pD 4 (by decide) (by decide) _ (HD8.out.src.heap rfl)
            have hvi := nxV_in zs pD (n := 4) (by decide) (by decide)
            have HEB : Hid (eb < w8.heap.size ∧ eb ≠ g) := ⟨(Array.getElem?_eq_some_iff.1 hb8).1, by have := HE7.out.hge; have := HE7.out.dr.glt; omega⟩
            have HB8 : Hid _ := hb8
            clear e60 e61 e62 ef6 hb8 hgw hown8 hgr8 HE7 HE6 HOWN7 HLB HNW HW7
            go_wp2_with fail
            go_region_held3 (fun w' => w'.cell? ⟨eb, 0, none⟩ = some (.int .i64 pos) ∧ w'.cell? ⟨eb, 1, none⟩ = some (.int .i64 ln)) (first | go_keep | exact ⟨e80, e81⟩)
              ((go_at_call 26; refine HNX.out.mono ?_; rintro e w9 ⟨rfl, hs9, hf9⟩; have hb9 := (hf9.block eb HEB.out.1 HEB.out.2).trans HB8.out; have hk9 : w9.cell? ⟨eb, 0, none⟩ = some (.int .i64 pos) ∧ w9.cell? ⟨eb, 1, none⟩ = some (.int .i64 ln) := ⟨(cell_of_row w9 eb 0 _ _ _ hb9).trans rfl, (cell_of_row w9 eb 1 _ _ _ hb9).trans rfl⟩))
            have HD9 : Hid (Dr w base g a c zs (.slice ya (k + 1) yc) (rs ++ [(pos, ln, cc)]) (nxS zs pD) w9) := (HD8.out.call (W' := w8.drew) (HD8.out.src.heap rfl) ((Frm.refl _ _).drew)).call hs9 hf9
            generalize nxV zs pD 4 = d4 at *
            have ws2 : IntKind.i64.wrap (pos + ln + d4) = pos + ln + d4 := IntWalk.i64_in _ ⟨by omega, by omega⟩
            clear e80 e81 hb9 hk9 hs9 hf9 HB8 HD8 HNX
            go_wp2
            go_roundw
            case rel => exact ⟨rs ++ [(pos, ln, cc)], pos + ln + d4, _, m, by rw [List.length_append, hkk]; show k + 1 + m = n; omega, by rw [List.length_append, hkk]; first | rfl | go_num, by rw [ws2], HRN.out, HD9.out, HOKN.out d4 hvi.1, by omega⟩
            case measure => simp [intOf]; omega
        · obtain ⟨rb, hra, hrc⟩ := owns_cell (by have q := HE4.out.dr.own; rw [hkk] at q; exact q) (by omega)
          subst hra
          obtain ⟨lst, HLS⟩ : ∃ lst, Hid (rs.getD (k - 1) (0, 0, 0) = lst) := ⟨_, rfl⟩
          have hpc : ∀ j, j < 3 → W4.cell? ⟨rb, (k - 1) * 3 + j, none⟩ = (flat3 lst)[j]? := fun j hj => by
            rw [hrc _ (by omega), ← HLS.out]
            exact flat_at flat3 3 (fun _ => rfl) (0, 0, 0) rs (k - 1) j (by omega) hj
          have l0 := (hpc 0 (by omega)).trans (show (flat3 lst)[0]? = some (.int .i64 lst.1) from rfl)
          have l1 := (hpc 1 (by omega)).trans (show (flat3 lst)[1]? = some (.int .i64 lst.2.1) from rfl)
          have l2 := (hpc 2 (by omega)).trans (show (flat3 lst)[2]? = some (.int .i64 lst.2.2) from rfl)
          rw [Nat.add_zero] at l0
          have hin := (HOK.out.1.1 (k - 1) (by omega)).1
          rw [HLS.out] at hin
          obtain ⟨i1, i2, i3, i4⟩ := hin
          have HDT : Hid (∀ z, drTb rs pos z = true ↔ (lst.1 + lst.2.1 = pos ∧ lst.2.2 = z)) := fun z => by
            rw [drTb_iff]
            unfold drT
            rw [hkk, HLS.out]
            exact ⟨fun h => h.2, fun h => ⟨by omega, h⟩⟩
          have hw1 : IntKind.i64.wrap ((k : Int) - 1) = ((k - 1 : Nat) : Int) := (IntWalk.i64_in _ ⟨by omega, by omega⟩).trans (by omega)
          have hi1 : ((k - 1 : Nat) : Int) < (k : Int) := by omega
          have hk0 : 0 < k := by omega
          have ws0 : IntKind.i64.wrap (lst.1 + lst.2.1) = lst.1 + lst.2.1 := IntWalk.i64_in _ ⟨by omega, by omega⟩
          obtain ⟨x0, x1, x2⟩ := lst
          simp only at l0 l1 l2 ws0 i1 i2 i3 i4 HDT
          clear hrc hpc HLS
          generalize hk1 : k - 1 = k1 at *
          clear hk1
          obtain ⟨va, HVA⟩ : ∃ va : Option Addr, Hid (some ⟨rb, 0, none⟩ = va) := ⟨_, rfl⟩
          by_cases hsum : x0 + x1 = pos
          · have hsb : (x0 + x1 == pos) = true := by simpa using hsum
            by_cases hcnt : x2 = c0
            · have hcb : (x2 == c0) = true := by simpa using hcnt
              obtain ⟨cc, HC⟩ : ∃ cc, Hid (drC zs rs pos p1 = cc) := ⟨_, rfl⟩
              have hcc : cc = 1 + c0 % 7 := by
                rw [← HC.out]
                unfold drC
                rw [HC0.out, if_pos ((HDT.out c0).2 ⟨hsum, hcnt⟩)]
              have wm1 : IntKind.i64.wrap (c0.tmod 7) = c0.tmod 7 := by rw [Int.tmod_eq_emod_of_nonneg (by omega)]; exact IntWalk.i64_in _ ⟨by omega, by omega⟩
              have wm2 : IntKind.i64.wrap (1 + c0 % 7) = 1 + c0 % 7 := IntWalk.i64_in _ ⟨by omega, by omega⟩
              clear hsum hcnt HDT
              go_quiet (fail)
              have hE5 : Dx w base g a c zs (.slice (some ⟨rb, 0, none⟩) k vc) rs pD eb (pos, ln, c0) (W4.drewN nq) := HE4.out.below (below_drewN (Below.refl _ _) _)
              clear e40 e41 e42 ef4 HE4 l0 l1 l2
              generalize W4.drewN nq = W5 at *
              obtain ⟨e50, e51, e52, ef5⟩ := hE5.cells
              simp only at e50 e51 e52
              have HE5 : Hid _ := hE5
              have HCC : Hid (cc = 1 + c0 % 7) := hcc
              clear hE5 hcc
              go_upto_region 12 with fail
              rw [← HCC.out]
              have hE6 := HE5.out.set2 cc
              simp only at hE6
              clear e50 e51 e52 ef5 HE5 wm1 wm2 HCC
              generalize W5.setCell ⟨eb, 2, none⟩ (.int .i64 cc) = W6 at *
              rw [HVA.out] at hE6 hvf ⊢
              have HE6 : Hid (Dx w base g a c zs (.slice va k vc) rs pD eb (pos, ln, cc) W6) := hE6
              obtain ⟨e60, e61, e62, ef6⟩ := HE6.out.cells
              simp only at e60 e61 e62
              have ws1 : IntKind.i64.wrap (pos + ln) = pos + ln := IntWalk.i64_in _ ⟨by omega, by omega⟩
              clear hE6
              by_cases hst : 512 < pos + ln
              · have hRe : R = (rs, pD) := by rw [← HR.out, drG_stop (by rw [HLN.out]; exact hst), HPD.out]
                have hDR : Dr w base g a c zs (.slice va k vc) R.1 R.2 W6 := by rw [hRe]; exact HE6.out.dr
                have hlR : R.1.length = k := by rw [hRe]; exact hkk
                have hrd : RRead W6 (.slice va R.1.length vc) R.1 := by
                  have q := hDR.own
                  have q2 := owns_R (rs := R.1) (a := va) (c := vc) (base := w.heap.size) (W := W6) (by rw [hlR] at q ⊢; exact q)
                  exact q2
                have HEND : Hid (RRead W6 (.slice va k vc) R.1 ∧ SrcX base g a c zs R.2 W6 ∧ Frm (· = g) w W6) := ⟨by rw [← hlR]; exact hrd, hDR.src, hDR.frm⟩
                have HLR : Hid (R.1.length = k) := hlR
                clear hRe hDR hlR hrd HR HE6
                go_wp2
                go_ret
                exact ⟨⟨va, vc, by rw [HLR.out]; rfl, by rw [HLR.out]; exact HEND.out.1, hvf⟩, HEND.out.2⟩
              · obtain ⟨W7, HW7⟩ : ∃ W7, Hid (W6.alloc (.cells #[.int .i64 pos, .int .i64 ln, .int .i64 cc] 78) = W7) := ⟨_, rfl⟩
                have hE7 := HE6.out.below (belowA W6 (.cells #[.int .i64 pos, .int .i64 ln, .int .i64 cc] 78))
                rw [HW7.out] at hE7
                have HNW : Hid (W7.heap[W6.heap.size]? = some (.cells #[.int .i64 pos, .int .i64 ln, .int .i64 cc] 78 (0, 0))) := by rw [← HW7.out]; exact heap_alloc_new _ _
                have HE7 : Hid (Dx w base g a c zs (.slice va k vc) rs pD eb (pos, ln, cc) W7) := hE7
                have HLB : Hid (w.heap.size ≤ W7.heap.size) := hE7.dr.frm.size
                have HOWN7 : Hid (W7.ownsRow w.heap.size 78 3 (.slice va k vc) k (rs.flatMap flat3)) := by have q := hE7.dr.own; rw [hkk] at q; exact q
                have HRN : Hid (drG zs (rs ++ [(pos, ln, cc)]) (pos + ln + nxV zs pD 4) (nxS zs pD) m = R) := by
                  have q := drG_go (zs := zs) (rs := rs) (pos := pos) (p := p1) (m := m) (by rw [HLN.out]; exact hst)
                  rw [HLN.out, HC.out, HPD.out] at q
                  rw [Hid, ← HR.out, q]
                have HOKN : Hid (∀ d, 0 ≤ d → drOK (rs ++ [(pos, ln, cc)]) (pos + ln + d)) := fun d hd => by
                  have q := drOK_snoc HOK.out (drL_in zs p1) (drC_in zs rs pos p1) (by rw [HLN.out]; omega) (fun h0 he => drC_ne zs rs pos p1 h0 he) d hd
                  rw [HLN.out, HC.out] at q
                  exact q
                clear hE7
                go_wp2_with (first | (at_builtin; rw [HW7.out]; refine wpList_appendG rfl _ _ 32 78 _ 3 24 Tryz.underlying32 infoRn3 rfl (by decide) rfl (base := w.heap.size) HOWN7.out rfl ⟨W6.heap.size, 0, none⟩ 1 1 rfl [.int .i64 pos, .int .i64 ln, .int .i64 cc] rfl (by intro j u hj; rw [Addr.add_mid, Nat.zero_add]; simpa [World.cell?, HNW.out] using hj) (fun u hm => List.all_eq_true.1 (show ([.int .i64 pos, .int .i64 ln, .int .i64 cc] : List Value).all (·.oneCell') = true from rfl) u hm) (by omega) (by omega) HLB.out ?_; intro v' w8 hown8 hgr8; obtain ⟨ya, yc, rfl, hyf⟩ := owns_form hown8) | go_in)
                have hgw := HE7.out.grown (x := (pos, ln, cc)) (ya := ya) (yc := yc) (W' := w8) (by rw [hkk]; exact hown8) hgr8
                rw [hkk] at hgw
                have HD8 : Hid (Dr w base g a c zs (.slice ya (k + 1) yc) (rs ++ [(pos, ln, cc)]) pD w8) := hgw.1
                have hb8 := hgw.2.trans HE7.out.ebx
                have e80 : w8.cell? ⟨eb, 0, none⟩ = some (.int .i64 pos) := (cell_of_row w8 eb 0 _ _ _ hb8).trans rfl
                have e81 : w8.cell? ⟨eb, 1, none⟩ = some (.int .i64 ln) := (cell_of_row w8 eb 1 _ _ _ hb8).trans rfl
                have HNX : Hid (Calls Tryz.prog 26 #[.pointer (some ⟨g, 0, none⟩), .int .i64 4] w8.drew fun e w' => e = .returned (.int .i64 (nxV zs pD 4)) ∧ SrcX base g a c zs (nxS zs pD) w' ∧ Frm (· = g) w8.drew w') := l1Next_x base g a c zs pD 4 (by decide) (by decide) _ (HD8.out.src.heap rfl)
                have hvi := nxV_in zs pD (n := 4) (by decide) (by decide)
                have HEB : Hid (eb < w8.heap.size ∧ eb ≠ g) := ⟨(Array.getElem?_eq_some_iff.1 hb8).1, by have := HE7.out.hge; have := HE7.out.dr.glt; omega⟩
                have HB8 : Hid _ := hb8
                clear e60 e61 e62 ef6 hb8 hgw hown8 hgr8 HE7 HE6 HOWN7 HLB HNW HW7
                go_wp2_with fail
                go_region_held3 (fun w' => w'.cell? ⟨eb, 0, none⟩ = some (.int .i64 pos) ∧ w'.cell? ⟨eb, 1, none⟩ = some (.int .i64 ln)) (first | go_keep | exact ⟨e80, e81⟩)
                  ((go_at_call 26; refine HNX.out.mono ?_; rintro e w9 ⟨rfl, hs9, hf9⟩; have hb9 := (hf9.block eb HEB.out.1 HEB.out.2).trans HB8.out; have hk9 : w9.cell? ⟨eb, 0, none⟩ = some (.int .i64 pos) ∧ w9.cell? ⟨eb, 1, none⟩ = some (.int .i64 ln) := ⟨(cell_of_row w9 eb 0 _ _ _ hb9).trans rfl, (cell_of_row w9 eb 1 _ _ _ hb9).trans rfl⟩))
                have HD9 : Hid (Dr w base g a c zs (.slice ya (k + 1) yc) (rs ++ [(pos, ln, cc)]) (nxS zs pD) w9) := (HD8.out.call (W' := w8.drew) (HD8.out.src.heap rfl) ((Frm.refl _ _).drew)).call hs9 hf9
                generalize nxV zs pD 4 = d4 at *
                have ws2 : IntKind.i64.wrap (pos + ln + d4) = pos + ln + d4 := IntWalk.i64_in _ ⟨by omega, by omega⟩
                clear e80 e81 hb9 hk9 hs9 hf9 HB8 HD8 HNX
                go_wp2
                go_roundw
                case rel => exact ⟨rs ++ [(pos, ln, cc)], pos + ln + d4, _, m, by rw [List.length_append, hkk]; show k + 1 + m = n; omega, by rw [List.length_append, hkk]; first | rfl | go_num, by rw [ws2], HRN.out, HD9.out, HOKN.out d4 hvi.1, by omega⟩
                case measure => simp [intOf]; omega
            · have hcb : (x2 == c0) = false := by simpa using hcnt
              obtain ⟨cc, HC⟩ : ∃ cc, Hid (drC zs rs pos p1 = cc) := ⟨_, rfl⟩
              have hcc : cc = c0 := by
                rw [← HC.out]
                unfold drC
                rw [HC0.out, if_neg (fun hh => hcnt ((HDT.out c0).1 hh).2)]
              subst hcc
              clear hsum hcnt HDT
              go_quiet (fail)
              have hE6 : Dx w base g a c zs (.slice (some ⟨rb, 0, none⟩) k vc) rs pD eb (pos, ln, cc) (W4.drewN nq) := HE4.out.below (below_drewN (Below.refl _ _) _)
              clear e40 e41 e42 ef4 HE4 l0 l1 l2
              generalize W4.drewN nq = W6 at *
              rw [HVA.out] at hE6 hvf ⊢
              have HE6 : Hid (Dx w base g a c zs (.slice va k vc) rs pD eb (pos, ln, cc) W6) := hE6
              obtain ⟨e60, e61, e62, ef6⟩ := HE6.out.cells
              simp only at e60 e61 e62
              have ws1 : IntKind.i64.wrap (pos + ln) = pos + ln := IntWalk.i64_in _ ⟨by omega, by omega⟩
              clear hE6
              by_cases hst : 512 < pos + ln
              · have hRe : R = (rs, pD) := by rw [← HR.out, drG_stop (by rw [HLN.out]; exact hst), HPD.out]
                have hDR : Dr w base g a c zs (.slice va k vc) R.1 R.2 W6 := by rw [hRe]; exact HE6.out.dr
                have hlR : R.1.length = k := by rw [hRe]; exact hkk
                have hrd : RRead W6 (.slice va R.1.length vc) R.1 := by
                  have q := hDR.own
                  have q2 := owns_R (rs := R.1) (a := va) (c := vc) (base := w.heap.size) (W := W6) (by rw [hlR] at q ⊢; exact q)
                  exact q2
                have HEND : Hid (RRead W6 (.slice va k vc) R.1 ∧ SrcX base g a c zs R.2 W6 ∧ Frm (· = g) w W6) := ⟨by rw [← hlR]; exact hrd, hDR.src, hDR.frm⟩
                have HLR : Hid (R.1.length = k) := hlR
                clear hRe hDR hlR hrd HR HE6
                go_wp2
                go_ret
                exact ⟨⟨va, vc, by rw [HLR.out]; rfl, by rw [HLR.out]; exact HEND.out.1, hvf⟩, HEND.out.2⟩
              · obtain ⟨W7, HW7⟩ : ∃ W7, Hid (W6.alloc (.cells #[.int .i64 pos, .int .i64 ln, .int .i64 cc] 78) = W7) := ⟨_, rfl⟩
                have hE7 := HE6.out.below (belowA W6 (.cells #[.int .i64 pos, .int .i64 ln, .int .i64 cc] 78))
                rw [HW7.out] at hE7
                have HNW : Hid (W7.heap[W6.heap.size]? = some (.cells #[.int .i64 pos, .int .i64 ln, .int .i64 cc] 78 (0, 0))) := by rw [← HW7.out]; exact heap_alloc_new _ _
                have HE7 : Hid (Dx w base g a c zs (.slice va k vc) rs pD eb (pos, ln, cc) W7) := hE7
                have HLB : Hid (w.heap.size ≤ W7.heap.size) := hE7.dr.frm.size
                have HOWN7 : Hid (W7.ownsRow w.heap.size 78 3 (.slice va k vc) k (rs.flatMap flat3)) := by have q := hE7.dr.own; rw [hkk] at q; exact q
                have HRN : Hid (drG zs (rs ++ [(pos, ln, cc)]) (pos + ln + nxV zs pD 4) (nxS zs pD) m = R) := by
                  have q := drG_go (zs := zs) (rs := rs) (pos := pos) (p := p1) (m := m) (by rw [HLN.out]; exact hst)
                  rw [HLN.out, HC.out, HPD.out] at q
                  rw [Hid, ← HR.out, q]
                have HOKN : Hid (∀ d, 0 ≤ d → drOK (rs ++ [(pos, ln, cc)]) (pos + ln + d)) := fun d hd => by
                  have q := drOK_snoc HOK.out (drL_in zs p1) (drC_in zs rs pos p1) (by rw [HLN.out]; omega) (fun h0 he => drC_ne zs rs pos p1 h0 he) d hd
                  rw [HLN.out, HC.out] at q
                  exact q
                clear hE7
                go_wp2_with (first | (at_builtin; rw [HW7.out]; refine wpList_appendG rfl _ _ 32 78 _ 3 24 Tryz.underlying32 infoRn3 rfl (by decide) rfl (base := w.heap.size) HOWN7.out rfl ⟨W6.heap.size, 0, none⟩ 1 1 rfl [.int .i64 pos, .int .i64 ln, .int .i64 cc] rfl (by intro j u hj; rw [Addr.add_mid, Nat.zero_add]; simpa [World.cell?, HNW.out] using hj) (fun u hm => List.all_eq_true.1 (show ([.int .i64 pos, .int .i64 ln, .int .i64 cc] : List Value).all (·.oneCell') = true from rfl) u hm) (by omega) (by omega) HLB.out ?_; intro v' w8 hown8 hgr8; obtain ⟨ya, yc, rfl, hyf⟩ := owns_form hown8) | go_in)
                have hgw := HE7.out.grown (x := (pos, ln, cc)) (ya := ya) (yc := yc) (W' := w8) (by rw [hkk]; exact hown8) hgr8
                rw [hkk] at hgw
                have HD8 : Hid (Dr w base g a c zs (.slice ya (k + 1) yc) (rs ++ [(pos, ln, cc)]) pD w8) := hgw.1
                have hb8 := hgw.2.trans HE7.out.ebx
                have e80 : w8.cell? ⟨eb, 0, none⟩ = some (.int .i64 pos) := (cell_of_row w8 eb 0 _ _ _ hb8).trans rfl
                have e81 : w8.cell? ⟨eb, 1, none⟩ = some (.int .i64 ln) := (cell_of_row w8 eb 1 _ _ _ hb8).trans rfl
                have HNX : Hid (Calls Tryz.prog 26 #[.pointer (some ⟨g, 0, none⟩), .int .i64 4] w8.drew fun e w' => e = .returned (.int .i64 (nxV zs pD 4)) ∧ SrcX base g a c zs (nxS zs pD) w' ∧ Frm (· = g) w8.drew w') := l1Next_x base g a c zs pD 4 (by decide) (by decide) _ (HD8.out.src.heap rfl)
                have hvi := nxV_in zs pD (n := 4) (by decide) (by decide)
                have HEB : Hid (eb < w8.heap.size ∧ eb ≠ g) := ⟨(Array.getElem?_eq_some_iff.1 hb8).1, by have := HE7.out.hge; have := HE7.out.dr.glt; omega⟩
                have HB8 : Hid _ := hb8
                clear e60 e61 e62 ef6 hb8 hgw hown8 hgr8 HE7 HE6 HOWN7 HLB HNW HW7
                go_wp2_with fail
                go_region_held3 (fun w' => w'.cell? ⟨eb, 0, none⟩ = some (.int .i64 pos) ∧ w'.cell? ⟨eb, 1, none⟩ = some (.int .i64 ln)) (first | go_keep | exact ⟨e80, e81⟩)
                  ((go_at_call 26; refine HNX.out.mono ?_; rintro e w9 ⟨rfl, hs9, hf9⟩; have hb9 := (hf9.block eb HEB.out.1 HEB.out.2).trans HB8.out; have hk9 : w9.cell? ⟨eb, 0, none⟩ = some (.int .i64 pos) ∧ w9.cell? ⟨eb, 1, none⟩ = some (.int .i64 ln) := ⟨(cell_of_row w9 eb 0 _ _ _ hb9).trans rfl, (cell_of_row w9 eb 1 _ _ _ hb9).trans rfl⟩))
                have HD9 : Hid (Dr w base g a c zs (.slice ya (k + 1) yc) (rs ++ [(pos, ln, cc)]) (nxS zs pD) w9) := (HD8.out.call (W' := w8.drew) (HD8.out.src.heap rfl) ((Frm.refl _ _).drew)).call hs9 hf9
                generalize nxV zs pD 4 = d4 at *
                have ws2 : IntKind.i64.wrap (pos + ln + d4) = pos + ln + d4 := IntWalk.i64_in _ ⟨by omega, by omega⟩
                clear e80 e81 hb9 hk9 hs9 hf9 HB8 HD8 HNX
                go_wp2
                go_roundw
                case rel => exact ⟨rs ++ [(pos, ln, cc)], pos + ln + d4, _, m, by rw [List.length_append, hkk]; show k + 1 + m = n; omega, by rw [List.length_append, hkk]; first | rfl | go_num, by rw [ws2], HRN.out, HD9.out, HOKN.out d4 hvi.1, by omega⟩
                case measure => simp [intOf]; omega
          · have hsb : (x0 + x1 == pos) = false := by simpa using hsum
            obtain ⟨cc, HC⟩ : ∃ cc, Hid (drC zs rs pos p1 = cc) := ⟨_, rfl⟩
            have hcc : cc = c0 := by
              rw [← HC.out]
              unfold drC
              rw [HC0.out, if_neg (fun hh => hsum ((HDT.out c0).1 hh).1)]
            subst hcc
            clear hsum HDT
            go_quiet (fail)
            have hE6 : Dx w base g a c zs (.slice (some ⟨rb, 0, none⟩) k vc) rs pD eb (pos, ln, cc) (W4.drewN nq) := HE4.out.below (below_drewN (Below.refl _ _) _)
            clear e40 e41 e42 ef4 HE4 l0 l1 l2
            generalize W4.drewN nq = W6 at *
            rw [HVA.out] at hE6 hvf ⊢
            have HE6 : Hid (Dx w base g a c zs (.slice va k vc) rs pD eb (pos, ln, cc) W6) := hE6
            obtain ⟨e60, e61, e62, ef6⟩ := HE6.out.cells
            simp only at e60 e61 e62
            have ws1 : IntKind.i64.wrap (pos + ln) = pos + ln := IntWalk.i64_in _ ⟨by omega, by omega⟩
            clear hE6
            by_cases hst : 512 < pos + ln
            · have hRe : R = (rs, pD) := by rw [← HR.out, drG_stop (by rw [HLN.out]; exact hst), HPD.out]
              have hDR : Dr w base g a c zs (.slice va k vc) R.1 R.2 W6 := by rw [hRe]; exact HE6.out.dr
              have hlR : R.1.length = k := by rw [hRe]; exact hkk
              have hrd : RRead W6 (.slice va R.1.length vc) R.1 := by
                have q := hDR.own
                have q2 := owns_R (rs := R.1) (a := va) (c := vc) (base := w.heap.size) (W := W6) (by rw [hlR] at q ⊢; exact q)
                exact q2
              have HEND : Hid (RRead W6 (.slice va k vc) R.1 ∧ SrcX base g a c zs R.2 W6 ∧ Frm (· = g) w W6) := ⟨by rw [← hlR]; exact hrd, hDR.src, hDR.frm⟩
              have HLR : Hid (R.1.length = k) := hlR
              clear hRe hDR hlR hrd HR HE6
              go_wp2
              go_ret
              exact ⟨⟨va, vc, by rw [HLR.out]; rfl, by rw [HLR.out]; exact HEND.out.1, hvf⟩, HEND.out.2⟩
            · obtain ⟨W7, HW7⟩ : ∃ W7, Hid (W6.alloc (.cells #[.int .i64 pos, .int .i64 ln, .int .i64 cc] 78) = W7) := ⟨_, rfl⟩
              have hE7 := HE6.out.below (belowA W6 (.cells #[.int .i64 pos, .int .i64 ln, .int .i64 cc] 78))
              rw [HW7.out] at hE7
              have HNW : Hid (W7.heap[W6.heap.size]? = some (.cells #[.int .i64 pos, .int .i64 ln, .int .i64 cc] 78 (0, 0))) := by rw [← HW7.out]; exact heap_alloc_new _ _
              have HE7 : Hid (Dx w base g a c zs (.slice va k vc) rs pD eb (pos, ln, cc) W7) := hE7
              have HLB : Hid (w.heap.size ≤ W7.heap.size) := hE7.dr.frm.size
              have HOWN7 : Hid (W7.ownsRow w.heap.size 78 3 (.slice va k vc) k (rs.flatMap flat3)) := by have q := hE7.dr.own; rw [hkk] at q; exact q
              have HRN : Hid (drG zs (rs ++ [(pos, ln, cc)]) (pos + ln + nxV zs pD 4) (nxS zs pD) m = R) := by
                have q := drG_go (zs := zs) (rs := rs) (pos := pos) (p := p1) (m := m) (by rw [HLN.out]; exact hst)
                rw [HLN.out, HC.out, HPD.out] at q
                rw [Hid, ← HR.out, q]
              have HOKN : Hid (∀ d, 0 ≤ d → drOK (rs ++ [(pos, ln, cc)]) (pos + ln + d)) := fun d hd => by
                have q := drOK_snoc HOK.out (drL_in zs p1) (drC_in zs rs pos p1) (by rw [HLN.out]; omega) (fun h0 he => drC_ne zs rs pos p1 h0 he) d hd
                rw [HLN.out, HC.out] at q
                exact q
              clear hE7
              go_wp2_with (first | (at_builtin; rw [HW7.out]; refine wpList_appendG rfl _ _ 32 78 _ 3 24 Tryz.underlying32 infoRn3 rfl (by decide) rfl (base := w.heap.size) HOWN7.out rfl ⟨W6.heap.size, 0, none⟩ 1 1 rfl [.int .i64 pos, .int .i64 ln, .int .i64 cc] rfl (by intro j u hj; rw [Addr.add_mid, Nat.zero_add]; simpa [World.cell?, HNW.out] using hj) (fun u hm => List.all_eq_true.1 (show ([.int .i64 pos, .int .i64 ln, .int .i64 cc] : List Value).all (·.oneCell') = true from rfl) u hm) (by omega) (by omega) HLB.out ?_; intro v' w8 hown8 hgr8; obtain ⟨ya, yc, rfl, hyf⟩ := owns_form hown8) | go_in)
              have hgw := HE7.out.grown (x := (pos, ln, cc)) (ya := ya) (yc := yc) (W' := w8) (by rw [hkk]; exact hown8) hgr8
              rw [hkk] at hgw
              have HD8 : Hid (Dr w base g a c zs (.slice ya (k + 1) yc) (rs ++ [(pos, ln, cc)]) pD w8) := hgw.1
              have hb8 := hgw.2.trans HE7.out.ebx
              have e80 : w8.cell? ⟨eb, 0, none⟩ = some (.int .i64 pos) := (cell_of_row w8 eb 0 _ _ _ hb8).trans rfl
              have e81 : w8.cell? ⟨eb, 1, none⟩ = some (.int .i64 ln) := (cell_of_row w8 eb 1 _ _ _ hb8).trans rfl
              have HNX : Hid (Calls Tryz.prog 26 #[.pointer (some ⟨g, 0, none⟩), .int .i64 4] w8.drew fun e w' => e = .returned (.int .i64 (nxV zs pD 4)) ∧ SrcX base g a c zs (nxS zs pD) w' ∧ Frm (· = g) w8.drew w') := l1Next_x base g a c zs pD 4 (by decide) (by decide) _ (HD8.out.src.heap rfl)
              have hvi := nxV_in zs pD (n := 4) (by decide) (by decide)
              have HEB : Hid (eb < w8.heap.size ∧ eb ≠ g) := ⟨(Array.getElem?_eq_some_iff.1 hb8).1, by have := HE7.out.hge; have := HE7.out.dr.glt; omega⟩
              have HB8 : Hid _ := hb8
              clear e60 e61 e62 ef6 hb8 hgw hown8 hgr8 HE7 HE6 HOWN7 HLB HNW HW7
              go_wp2_with fail
              go_region_held3 (fun w' => w'.cell? ⟨eb, 0, none⟩ = some (.int .i64 pos) ∧ w'.cell? ⟨eb, 1, none⟩ = some (.int .i64 ln)) (first | go_keep | exact ⟨e80, e81⟩)
                ((go_at_call 26; refine HNX.out.mono ?_; rintro e w9 ⟨rfl, hs9, hf9⟩; have hb9 := (hf9.block eb HEB.out.1 HEB.out.2).trans HB8.out; have hk9 : w9.cell? ⟨eb, 0, none⟩ = some (.int .i64 pos) ∧ w9.cell? ⟨eb, 1, none⟩ = some (.int .i64 ln) := ⟨(cell_of_row w9 eb 0 _ _ _ hb9).trans rfl, (cell_of_row w9 eb 1 _ _ _ hb9).trans rfl⟩))
              have HD9 : Hid (Dr w base g a c zs (.slice ya (k + 1) yc) (rs ++ [(pos, ln, cc)]) (nxS zs pD) w9) := (HD8.out.call (W' := w8.drew) (HD8.out.src.heap rfl) ((Frm.refl _ _).drew)).call hs9 hf9
              generalize nxV zs pD 4 = d4 at *
              have ws2 : IntKind.i64.wrap (pos + ln + d4) = pos + ln + d4 := IntWalk.i64_in _ ⟨by omega, by omega⟩
              clear e80 e81 hb9 hk9 hs9 hf9 HB8 HD8 HNX
              go_wp2
              go_roundw
              case rel => exact ⟨rs ++ [(pos, ln, cc)], pos + ln + d4, _, m, by rw [List.length_append, hkk]; show k + 1 + m = n; omega, by rw [List.length_append, hkk]; first | rfl | go_num, by rw [ws2], HRN.out, HD9.out, HOKN.out d4 hvi.1, by omega⟩
              case measure => simp [intOf]; omega
end Go.Proofs.YtfbjagjgofdheaaGreatDoor

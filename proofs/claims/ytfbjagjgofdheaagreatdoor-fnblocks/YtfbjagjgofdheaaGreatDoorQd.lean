import Derived.Test.YtfbjagjgofdheaaGreatDoorQb
import Derived.Test.YtfbjagjgofdheaaGreatDoorLk
namespace Go.Proofs.YtfbjagjgofdheaaGreatDoor
open Go.RowKit
set_option linter.unusedVariables false

/-- l2DrawNode at work: the answer's box, the node's, its elements, the source -/
structure Dn (w : World) (base g : Nat) (a : Option Addr) (c : Nat) (zs : List Int) (X : Nat) (kd : Int) (v : Value) (es : List E3) (p : St2) (W : World) : Prop where
  res : W.heap[w.heap.size]? = some (.cells #[.int .i64 0, .slice none 0 0] 25 (0, 0))
  box : W.heap[X]? = some (.cells #[.int .i64 kd, v] 25 (0, 0))
  own : W.ownsRow (X + 1) 52 3 v es.length (es.flatMap flatE)
  hX : w.heap.size < X
  src : SrcX base g a c zs p W
  frm : Frm (· = g) w W
  glt : g < w.heap.size
theorem Dn.call {w : World} {base g : Nat} {a : Option Addr} {c : Nat} {zs : List Int} {X : Nat} {kd : Int} {v : Value} {es : List E3} {p p' : St2} {W W' : World} (h : Dn w base g a c zs X kd v es p W) (hs : SrcX base g a c zs p' W') (hf : Frm (· = g) W W') : Dn w base g a c zs X kd v es p' W' := by
  have hlt : X < W.heap.size := (Array.getElem?_eq_some_iff.1 h.box).1
  have h1 := h.hX
  have h2 := h.glt
  refine ⟨(hf.block _ (by omega) (by show ¬ w.heap.size = g; omega)).trans h.res, (hf.block _ hlt (by show ¬ X = g; omega)).trans h.box, ?_, h1, hs, h.frm.trans hf, h2⟩
  refine ⟨h.own.1, ?_⟩
  rcases h.own.2 with hv | ⟨q, cap, cur, hv, e1, e2, e3⟩
  · exact .inl hv
  · exact .inr ⟨q, cap, cur, hv, e1, (hf.block q (Array.getElem?_eq_some_iff.1 e2).1 (by show ¬ q = g; omega)).trans e2, e3⟩
theorem Dn.below {w : World} {base g : Nat} {a : Option Addr} {c : Nat} {zs : List Int} {X : Nat} {kd : Int} {v : Value} {es : List E3} {p : St2} {W W' : World} (h : Dn w base g a c zs X kd v es p W) (hb : Below W.heap.size W W') : Dn w base g a c zs X kd v es p W' := h.call (h.src.below hb) (Frm.of_below hb)
/-- and an element's box -/
structure De (w : World) (base g : Nat) (a : Option Addr) (c : Nat) (zs : List Int) (X : Nat) (kd : Int) (v : Value) (es : List E3) (p : St2) (eb : Nat) (e : E3) (W : World) : Prop where
  dn : Dn w base g a c zs X kd v es p W
  ebx : W.heap[eb]? = some (.cells #[.string e.1, .string e.2.1, .int .i64 e.2.2] 52 (0, 0))
  far : ∀ q, v.ownBlock = some q → q ≠ eb
  hlt : X < eb
section
variable {w : World} {base g : Nat} {a : Option Addr} {c : Nat} {zs : List Int} {X : Nat} {kd : Int} {v : Value} {es : List E3} {p p' : St2} {eb : Nat} {e : E3} {W W' : World}
theorem De.call (h : De w base g a c zs X kd v es p eb e W) (hs : SrcX base g a c zs p' W') (hf : Frm (· = g) W W') : De w base g a c zs X kd v es p' eb e W' := by
  have h1 := h.dn.hX
  have h2 := h.dn.glt
  have h3 := h.hlt
  exact ⟨h.dn.call hs hf, (hf.block _ (Array.getElem?_eq_some_iff.1 h.ebx).1 (by show ¬ eb = g; omega)).trans h.ebx, h.far, h3⟩
theorem De.below (h : De w base g a c zs X kd v es p eb e W) (hb : Below W.heap.size W W') : De w base g a c zs X kd v es p eb e W' := h.call (h.dn.src.below hb) (Frm.of_below hb)
theorem De.new (h : Dn w base g a c zs X kd v es p W) (k : ByteArray) : De w base g a c zs X kd v es p W.heap.size (k, ByteArray.empty, 0) (W.alloc (.cells #[.string k, .string ByteArray.empty, .int .i64 0] 52)) :=
  ⟨h.below (belowA _ _), heap_alloc_new _ _, fun q hq => by have := World.ownsRow.lt h.own q hq; omega, (Array.getElem?_eq_some_iff.1 h.box).1⟩
theorem De.dnset (h : De w base g a c zs X kd v es p eb e W) (i : Nat) (u : Value) : Dn w base g a c zs X kd v es p (W.setCell ⟨eb, i, none⟩ u) := by
  have h1 := h.dn.hX
  have h2 := h.dn.glt
  have h3 := h.hlt
  have h4 := h.dn.src.lo
  refine ⟨(Below.heap_setCell _ ⟨eb, i, none⟩ _ _ (by show w.heap.size ≠ eb; omega)).trans h.dn.res, (Below.heap_setCell _ ⟨eb, i, none⟩ _ _ (by show X ≠ eb; omega)).trans h.dn.box, owns_far h.dn.own h.far ⟨eb, i, none⟩ rfl u, h1, h.dn.src.frm (S := fun k => k = eb) ⟨rfl, rfl, rfl, by simp [World.setCell], fun k _ hn => Below.heap_setCell _ _ _ _ hn⟩ (by show ¬ g = eb; omega) (fun b hb => by omega), ?_, h2⟩
  refine ⟨h.dn.frm.os, h.dn.frm.tape, h.dn.frm.output, Nat.le_trans h.dn.frm.size (by simp [World.setCell]), fun k hk hn => ?_⟩
  exact (Below.heap_setCell _ ⟨eb, i, none⟩ _ _ (by show k ≠ eb; omega)).trans (h.dn.frm.block k hk hn)
theorem De.set0 (h : De w base g a c zs X kd v es p eb e W) (k : ByteArray) : De w base g a c zs X kd v es p eb (k, e.2.1, e.2.2) (W.setCell ⟨eb, 0, none⟩ (.string k)) := ⟨h.dnset 0 _, by simpa using heap_setCell_same W eb 0 _ _ (.string k) h.ebx, h.far, h.hlt⟩
theorem De.set1 (h : De w base g a c zs X kd v es p eb e W) (k : ByteArray) : De w base g a c zs X kd v es p eb (e.1, k, e.2.2) (W.setCell ⟨eb, 1, none⟩ (.string k)) := ⟨h.dnset 1 _, by simpa using heap_setCell_same W eb 1 _ _ (.string k) h.ebx, h.far, h.hlt⟩
theorem De.set2 (h : De w base g a c zs X kd v es p eb e W) (k : Int) : De w base g a c zs X kd v es p eb (e.1, e.2.1, k) (W.setCell ⟨eb, 2, none⟩ (.int .i64 k)) := ⟨h.dnset 2 _, by simpa using heap_setCell_same W eb 2 _ _ (.int .i64 k) h.ebx, h.far, h.hlt⟩
theorem De.cells (h : De w base g a c zs X kd v es p eb e W) : W.cell? ⟨eb, 0, none⟩ = some (.string e.1) ∧ W.cell? ⟨eb, 1, none⟩ = some (.string e.2.1) ∧ W.cell? ⟨eb, 2, none⟩ = some (.int .i64 e.2.2) ∧ (∀ i, W.frozen? ⟨eb, i, none⟩ = false) ∧ W.cell? ⟨X, 0, none⟩ = some (.int .i64 kd) ∧ W.cell? ⟨X, 1, none⟩ = some v :=
  ⟨(cell_of_row W eb 0 _ _ _ h.ebx).trans rfl, (cell_of_row W eb 1 _ _ _ h.ebx).trans rfl, (cell_of_row W eb 2 _ _ _ h.ebx).trans rfl, fun i => frozen_of_row W eb i _ _ h.ebx, (cell_of_row W X 0 _ _ _ h.dn.box).trans rfl, (cell_of_row W X 1 _ _ _ h.dn.box).trans rfl⟩
end
theorem dnE_leaf (zs : List Int) (key : ByteArray) (p : St2) : dnE zs 1 key p = ((key, (dtR zs p 10).1, 0), (dtR zs p 10).2) := if_pos rfl
theorem dnE_inner (zs : List Int) (key : ByteArray) (p : St2) : dnE zs 2 key p = ((key, ByteArray.empty, 2 + nxV zs p 510), nxS zs p) := if_neg (by decide)

set_option maxRecDepth 100000 in
set_option maxHeartbeats 8000000 in
theorem l2DrawLeaf_x (base g : Nat) (a : Option Addr) (c : Nat) (zs : List Int) (p : St2) (w : World) (hs : SrcX base g a c zs p w) (hkd : dnKd zs p = 1) :
    Calls Tryz.prog 25 #[.pointer (some ⟨g, 0, none⟩)] w fun e w' => (∃ a c, e = .returned (.agg #[.int .i64 (dnV zs p).1, .slice a (dnV zs p).2.length c]) ∧ NRead w' (.slice a (dnV zs p).2.length c) (dnV zs p).2) ∧ SrcX base g a c zs (dnQ zs p).2 w' ∧ Frm (· = g) w w' := by
  have hgl := hs.lt
  have HN : Hid (dnN zs p = if dnKd zs p = 2 ∧ nxV zs (nxS zs p) 6 < 2 then 2 + nxV zs (nxS zs (nxS zs p)) 2 else nxV zs (nxS zs p) 6) := rfl
  have HP : Hid (dnP zs p = if dnKd zs p = 2 ∧ nxV zs (nxS zs p) 6 < 2 then nxS zs (nxS zs (nxS zs p)) else nxS zs (nxS zs p)) := rfl
  have HQ : Hid (dnQ zs p = dnL zs (dnKd zs p) [] (dnP zs p) (dnN zs p).toNat) := rfl
  have HV : Hid (dnV zs p = if dnKd zs p = 2 ∧ (dnQ zs p).1.length < 2 then (1, []) else (dnKd zs p, (dnQ zs p).1)) := rfl
  have hkv : 1 + nxV zs p 2 = 1 := hkd
  have hnn := dnN_in zs p
  rw [hkd] at HN HP HQ HV
  obtain ⟨R, HRR⟩ : ∃ R, Hid (dnQ zs p = R) := ⟨_, rfl⟩
  rw [HRR.out] at HQ HV ⊢
  obtain ⟨n, hn⟩ : ∃ n : Nat, dnN zs p = n := ⟨(dnN zs p).toNat, by omega⟩
  obtain ⟨pS, hpS⟩ : ∃ pS, dnP zs p = pS := ⟨_, rfl⟩
  rw [hn, hpS, Int.toNat_natCast] at HQ
  rw [hn] at HN hnn
  rw [hpS] at HP
  obtain ⟨V, HVV⟩ : ∃ V, Hid (dnV zs p = V) := ⟨_, rfl⟩
  rw [HVV.out] at HV ⊢
  have hb0 := belowA w (.cells #[.int .i64 0, .slice none 0 0] 25)
  have hx : (w.alloc (.cells #[.int .i64 0, .slice none 0 0] 25)).heap[w.heap.size]? = some (.cells #[.int .i64 0, .slice none 0 0] 25 (0, 0)) := heap_alloc_new _ _
  have hs0 := hs.below hb0
  have hf0 : Frm (· = g) w (w.alloc (.cells #[.int .i64 0, .slice none 0 0] 25)) := Frm.of_below hb0
  clear hb0 hn hpS hkd HVV HRR
  go_enter Tryz.func25, Tryz.ntmps25
  go_wp2_with fail
  refine (l1Next_x base g a c zs p 2 (by decide) (by decide) _ hs0).mono ?_
  rintro e w1 ⟨rfl, hs1, hf1⟩
  have hx1 := (hf1.block _ (Array.getElem?_eq_some_iff.1 hx).1 (by show ¬ w.heap.size = g; omega)).trans hx
  have hf1' := hf0.trans hf1
  have hwk : IntKind.i64.wrap (1 + nxV zs p 2) = 1 := by rw [hkv]; rfl
  clear hs0 hf0 hx hf1 hs hkv
  generalize nxV zs p 2 = nk at *
  have hb2 := belowA w1 (.cells #[.int .i64 1, .slice none 0 0] 25)
  have hD0 : Dn w base g a c zs w1.heap.size 1 (.slice none 0 0) [] (nxS zs p) (w1.alloc (.cells #[.int .i64 1, .slice none 0 0] 25)) := ⟨(hb2.block _ (Array.getElem?_eq_some_iff.1 hx1).1).trans hx1, heap_alloc_new _ _, World.ownsRow_nil _ _ _ _, (Array.getElem?_eq_some_iff.1 hx1).1, hs1.below hb2, hf1'.trans (Frm.of_below hb2), hgl⟩
  obtain ⟨X, HXX⟩ : ∃ X, Hid (w1.heap.size = X) := ⟨_, rfl⟩
  rw [HXX.out] at hD0
  clear hx1 hs1 hf1' hb2
  go_wp2_with fail
  rw [HXX.out]
  generalize w1.alloc (.cells #[.int .i64 1, .slice none 0 0] 25) = W0 at *
  refine (l1Next_x base g a c zs _ 6 (by decide) (by decide) _ hD0.src).mono ?_
  rintro e w2 ⟨rfl, hs2, hf2⟩
  have hD2 := hD0.call hs2 hf2
  have hkx := nxV_in zs (nxS zs p) (n := 6) (by decide) (by decide)
  have xk2 : w2.cell? ⟨X, 0, none⟩ = some (.int .i64 1) := (cell_of_row w2 X 0 _ _ _ hD2.box).trans rfl
  clear hD0 hs2 hf2
  generalize nxV zs (nxS zs p) 6 = k0 at *
  have hne : k0 = (n : Int) := by rw [HN.out, if_neg (by omega)]
  have hpe : pS = nxS zs (nxS zs p) := by rw [HP.out, if_neg (by omega)]
  subst hne
  rw [← hpe] at hD2
  have HD0 : Hid (Dn w base g a c zs X 1 (.slice none 0 0) [] pS w2) := hD2
  have HR0 : Hid (dnL zs 1 [] pS n = R) := HQ.out.symm
  clear hpe hD2 HN HP HQ
  go_wp2
  clear xk2
  go_loopw [5, 6, 7] (fun i _ _ wr => ∃ (es : List E3) (v : Value) (p1 : St2) (m : Nat), es.length + m = n ∧ i = .int .i64 es.length ∧ dnL zs 1 es p1 m = R ∧ Dn w base g a c zs X 1 v es p1 wr) (fun i _ _ _ => n - (intOf i).toNat)
  case atStart => exact ⟨[], _, _, n, by simp, rfl, HR0.out, HD0.out⟩
  case round =>
    obtain ⟨es, v, p1, m, hm, rfl, hR, hD⟩ := hrel
    clear HD0 HR0
    obtain ⟨k, hkk⟩ : ∃ k, es.length = k := ⟨_, rfl⟩
    obtain ⟨va, vc, hva, hvf⟩ := owns_form hD.own
    rw [hkk] at hva hm ⊢
    subst hva
    cases m with
    | zero =>
      have hki : ¬ (k : Int) < (n : Int) := by omega
      have hRe : R = (es, p1) := by rw [← hR]; rfl
      have hDR : Dn w base g a c zs X 1 (.slice va k vc) R.1 R.2 wr := by rw [hRe]; exact hD
      have hlR : R.1.length = k := by rw [hRe]; exact hkk
      clear hR hD hRe
      have hrd : NRead wr (.slice va k vc) R.1 := by
        have q := hDR.own
        rw [hlR] at q
        have q2 := owns_N (rs := R.1) (a := va) (c := vc) (by rw [hlR]; exact q)
        rw [hlR] at q2
        exact q2
      have HRD : Hid (NRead wr (.slice va k vc) R.1) := hrd
      have HFS : Hid (Fsh (X + 1) (va)) := hvf
      have hres := hDR.res
      have hbox := hDR.box
      have x0 : wr.cell? ⟨X, 0, none⟩ = some (.int .i64 1) := (cell_of_row wr X 0 _ _ _ hbox).trans rfl
      have x1 : wr.cell? ⟨X, 1, none⟩ = some (.slice va k vc) := (cell_of_row wr X 1 _ _ _ hbox).trans rfl
      have xf0 : wr.frozen? ⟨X, 0, none⟩ = false := frozen_of_row wr X _ _ _ hbox
      have xf1 : wr.frozen? ⟨X, 1, none⟩ = false := frozen_of_row wr X _ _ _ hbox
      obtain ⟨r0, r1, r2, r3⟩ := row2 hres
      have hXX := hDR.hX
      have hSS := hDR.src
      have hFF := hDR.frm
      have HEND : Hid (NRead ((wr.setCell ⟨w.heap.size, 0, none⟩ (.int .i64 1)).setCell ⟨w.heap.size, 1, none⟩ (.slice va k vc)) (.slice va k vc) R.1 ∧ SrcX base g a c zs R.2 ((wr.setCell ⟨w.heap.size, 0, none⟩ (.int .i64 1)).setCell ⟨w.heap.size, 1, none⟩ (.slice va k vc)) ∧ Frm (· = g) w ((wr.setCell ⟨w.heap.size, 0, none⟩ (.int .i64 1)).setCell ⟨w.heap.size, 1, none⟩ (.slice va k vc))) := by
        have hu : Upd w.heap.size (w.heap.size + 1) wr ((wr.setCell ⟨w.heap.size, 0, none⟩ (.int .i64 1)).setCell ⟨w.heap.size, 1, none⟩ (.slice va k vc)) := ((Upd.refl _ _ _).setCell (p := ⟨w.heap.size, 0, none⟩) (Nat.le_refl _) (Nat.lt_succ_self _) _).setCell (p := ⟨w.heap.size, 1, none⟩) (Nat.le_refl _) (Nat.lt_succ_self _) _
        have hfu : Frm (fun b => b = w.heap.size) wr ((wr.setCell ⟨w.heap.size, 0, none⟩ (.int .i64 1)).setCell ⟨w.heap.size, 1, none⟩ (.slice va k vc)) := ⟨hu.os, hu.tape, hu.output, hu.size, fun i hi hn => hu.block i hi (by omega)⟩
        have hlo := hSS.lo
        refine ⟨HRD.out.upd (fun q hq => by have := HFS.out q hq; omega) hu, hSS.frm hfu (by show ¬ g = w.heap.size; omega) (fun b hb => by omega), ?_⟩
        exact ⟨hu.os.trans hFF.os, hu.tape.trans hFF.tape, hu.output.trans hFF.output, Nat.le_trans hFF.size hu.size, fun i hi hn => (hu.block i (by have := hFF.size; omega) (.inl hi)).trans (hFF.block i hi hn)⟩
      have HVE : Hid (V = (1, R.1)) := by rw [Hid, HV.out, if_neg (by omega)]
      clear hrd hres hbox hXX hSS hFF hDR
      go_wp2
      refine bodyPost_ret (v := .agg #[.int .i64 1, .slice (va) k vc]) (by simp [results, Tryz.results25, go_sem, r0, r1]) rfl ⟨⟨va, vc, ?_, ?_⟩, HEND.out.2⟩
      · rw [HVE.out]; show Ending.returned (.agg #[.int .i64 1, .slice (va) k vc]) = Ending.returned (.agg #[.int .i64 1, .slice (va) R.1.length vc]); rw [hlR]
      · rw [HVE.out]; show NRead _ (.slice (va) R.1.length vc) R.1; rw [hlR]; exact HEND.out.1
    | succ m =>
      have hki : (k : Int) < (n : Int) := by omega
      have HR : Hid (dnL zs 1 es p1 (m + 1) = R) := hR
      have HD : Hid _ := hD
      clear hR
      go_wp2_with fail
      refine (l2DrawText_x base g a c zs p1 12 (by omega) _ hD.src).mono ?_
      rintro e w1 ⟨rfl, hs1, hf1⟩
      have hD1 := hD.call hs1 hf1
      have HD1 : Hid _ := hD1
      have hE2 := De.new hD1 (dtR zs p1 12).1
      obtain ⟨kx, HKX⟩ : ∃ kx, Hid ((dtR zs p1 12).1 = kx) := ⟨_, rfl⟩
      obtain ⟨px, HPX⟩ : ∃ px, Hid ((dtR zs p1 12).2 = px) := ⟨_, rfl⟩
      rw [HKX.out, HPX.out] at hE2
      rw [HKX.out]
      go_upto_region 9 with fail
      obtain ⟨W2, HW2⟩ : ∃ W2, Hid (w1.alloc (.cells #[.string kx, .string ByteArray.empty, .int .i64 0] 52) = W2) := ⟨_, rfl⟩
      rw [HW2.out] at hE2
      have HW2' : w1.alloc (.cells #[.string kx, .string { data := #[] }, .int .i64 0] 52) = W2 := HW2.out
      rw [HW2']
      generalize w1.heap.size = eb at *
      have HE2 : Hid (De w base g a c zs X 1 (.slice va k vc) es px eb (kx, ByteArray.empty, 0) W2) := hE2
      clear HW2 HW2' hE2 hD1 hs1 hf1 hD HD1 HD
      obtain ⟨e20, e21, e22, ef2, xk2, xv2⟩ := HE2.out.cells
      simp only at e20 e21 e22
      by_cases h0 : k = 0
      · have hk0 : ¬ 0 < k := by omega
        have hes : es = [] := List.length_eq_zero_iff.1 (by omega)
        have HK : Hid (dnK zs (lastK es) p1 = some (kx, px)) := by
          rw [Hid, hes]
          show some (dtR zs p1 12) = some (kx, px)
          rw [← HKX.out, ← HPX.out]
        clear hes HKX HPX h0
        go_quiet (fail)
        have hE3 : De w base g a c zs X 1 (.slice va k vc) es px eb (kx, ByteArray.empty, 0) (W2.drewN nq) := HE2.out.below (below_drewN (Below.refl _ _) _)
        clear e20 e21 e22 ef2 xk2 xv2 HE2
        generalize W2.drewN nq = W3 at *
        generalize px = p2 at *
        generalize kx = key at *
        have HE3 : Hid (De w base g a c zs X 1 (.slice va k vc) es p2 eb (key, ByteArray.empty, 0) W3) := hE3
        obtain ⟨e30, e31, e32, ef3, xk3, xv3⟩ := HE3.out.cells
        have ef31 := ef3 1
        clear hE3 ef3
        go_wp2_with fail
        refine (l2DrawText_x base g a c zs p2 10 (by omega) _ HE3.out.dn.src).mono ?_
        rintro e w5 ⟨rfl, hs5, hf5⟩
        have HE5 : Hid _ := HE3.out.call hs5 hf5
        obtain ⟨e50, e51, e52, ef5, xk5, xv5⟩ := HE5.out.cells
        have ef51 := ef5 1
        have HRN : Hid (dnL zs 1 (es ++ [(key, (dtR zs p2 10).1, 0)]) (dtR zs p2 10).2 m = R) := by
          have q := dnL_some (kd := 1) (m := m) HK.out
          rw [dnE_leaf] at q
          rw [Hid, ← HR.out, q]
        obtain ⟨sy, HSY⟩ : ∃ sy, Hid ((dtR zs p2 10).1 = sy) := ⟨_, rfl⟩
        obtain ⟨pN, HPN⟩ : ∃ pN, Hid ((dtR zs p2 10).2 = pN) := ⟨_, rfl⟩
        rw [HSY.out, HPN.out] at HRN
        rw [HPN.out] at HE5
        rw [HSY.out]
        clear e30 e31 e32 ef31 xk3 xv3 hs5 hf5 ef5
        go_upto_region 16 with fail
        obtain ⟨W6, HW6⟩ : ∃ W6, Hid (w5.setCell ⟨eb, 1, none⟩ (.string sy) = W6) := ⟨_, rfl⟩
        have HE6 : Hid (De w base g a c zs X 1 (.slice va k vc) es pN eb (key, sy, 0) W6) := by rw [← HW6.out]; exact HE5.out.set1 sy
        rw [HW6.out]
        clear HW6 e50 e51 e52 ef51 xk5 xv5 HE5 HE3 HSY HPN
        obtain ⟨W7, HW7⟩ : ∃ W7, Hid (W6.alloc (.cells #[.string key, .string sy, .int .i64 0] 52) = W7) := ⟨_, rfl⟩
        have hD7 := HE6.out.dn.below (belowA W6 (.cells #[.string key, .string sy, .int .i64 0] 52))
        rw [HW7.out] at hD7
        have HNW : Hid (W7.heap[W6.heap.size]? = some (.cells #[.string key, .string sy, .int .i64 0] 52 (0, 0))) := by rw [← HW7.out]; exact heap_alloc_new _ _
        obtain ⟨e60, e61, e62, ef6, xk6, xv6⟩ := HE6.out.cells
        simp only at e60 e61 e62
        have HD7 : Hid _ := hD7
        have HLB : Hid (X + 1 ≤ W7.heap.size) := (Array.getElem?_eq_some_iff.1 hD7.box).1
        have HOWN7 : Hid (W7.ownsRow (X + 1) 52 3 (.slice va k vc) k (es.flatMap flatE)) := by have q := hD7.own; rw [hkk] at q; exact q
        have HX7 : Hid _ := hD7.box
        clear hD7
        go_wp2_with (first | (at_builtin; rw [HW7.out]; refine wpList_appendT rfl _ _ 23 52 _ 3 40 Tryz.underlying23 infoEntry rfl (by decide) rfl (base := X + 1) HOWN7.out rfl ⟨W6.heap.size, 0, none⟩ 1 1 rfl [.string key, .string sy, .int .i64 0] rfl (by intro j u hj; rw [Addr.add_mid, Nat.zero_add]; simpa [World.cell?, HNW.out] using hj) (fun u hm => List.all_eq_true.1 (show ([.string key, .string sy, .int .i64 0] : List Value).all (·.oneCell') = true from rfl) u hm) (by omega) (by omega) HLB.out ?_; intro v' w8 hown8 hns8 hbl8; have hX8 := hns8.cells HX7.out (by decide); have y1 : w8.cell? ⟨X, 1, none⟩ = some (.slice va k vc) := (cell_of_row w8 X 1 _ _ _ hX8).trans rfl; have yf : w8.frozen? ⟨X, 1, none⟩ = false := frozen_of_row w8 X _ _ _ hX8; obtain ⟨ya, yc, rfl, hyf⟩ := owns_form hown8) | go_in)
        have hown9 : w8.ownsRow (X + 1) 52 3 (.slice ya (k + 1) yc) (k + 1) ((es ++ [(key, sy, 0)]).flatMap flatE) := by rw [flat_snoc]; exact hown8
        have hr8 := hns8.cells HD7.out.res (by decide)
        have hXX := HD7.out.hX
        have hgg := HD7.out.glt
        have hlo := HD7.out.src.lo
        have hf8 : Frm (fun b => X + 1 ≤ b) W7 w8 := ⟨hbl8.os, hbl8.tape, hbl8.output, hbl8.size, fun i _ hn => hbl8.block i (by omega)⟩
        have hs8 : SrcX base g a c zs pN w8 := HD7.out.src.frm hf8 (by omega) (fun b hb => by omega)
        have hX9 : (w8.setCell ⟨X, 1, none⟩ (.slice ya (k + 1) yc)).heap[X]? = some (.cells #[.int .i64 1, .slice ya (k + 1) yc] 25 (0, 0)) := by simpa using heap_setCell_same w8 X 1 _ _ (.slice ya (k + 1) yc) hX8
        have HD9 : Hid (Dn w base g a c zs X 1 (.slice ya (k + 1) yc) (es ++ [(key, sy, 0)]) pN (w8.setCell ⟨X, 1, none⟩ (.slice ya (k + 1) yc))) := by
          refine ⟨(Below.heap_setCell _ ⟨X, 1, none⟩ _ _ (by show w.heap.size ≠ X; omega)).trans hr8, hX9, ?_, hXX, hs8.frm (S := fun b => b = X) ⟨rfl, rfl, rfl, by simp [World.setCell], fun k _ hn => Below.heap_setCell _ _ _ _ hn⟩ (by show ¬ g = X; omega) (fun b hb => by omega), ?_, hgg⟩
          · rw [List.length_append, hkk]
            exact owns_set hown9 _ (by show X < X + 1; omega) _
          · have hfw := HD7.out.frm
            refine ⟨hbl8.os.trans hfw.os, hbl8.tape.trans hfw.tape, hbl8.output.trans hfw.output, Nat.le_trans hfw.size (Nat.le_trans hbl8.size (by simp [World.setCell])), fun i hi hn => ?_⟩
            exact (Below.heap_setCell _ ⟨X, 1, none⟩ _ _ (by show i ≠ X; omega)).trans ((hbl8.block i (by omega)).trans (hfw.block i hi hn))
        clear y1 yf hX8 hr8 hX9 hown9 hown8 e60 e61 e62 xk6 xv6
        go_roundw
        case rel => exact ⟨es ++ [(key, sy, 0)], _, pN, m, by rw [List.length_append, hkk]; show k + 1 + m = n; omega, by rw [List.length_append, hkk]; first | rfl | go_num, HRN.out, HD9.out⟩
        case measure => simp [intOf]; omega
      · obtain ⟨rb, hra, hrc⟩ := owns_cell (by have q := HE2.out.dn.own; rw [hkk] at q; exact q) (by omega)
        subst hra
        have hlk : lastK es = some (es.getD (k - 1) e0).1 := by rw [lastK_at (by omega), hkk]
        have hpc : W2.cell? ⟨rb, (k - 1) * 3, none⟩ = some (.string (es.getD (k - 1) e0).1) := by
          rw [hrc _ (by omega)]
          have q := flat_at flatE 3 (fun _ => rfl) e0 es (k - 1) 0 (by omega) (by omega)
          simpa [flatE] using q
        obtain ⟨pr, HPR⟩ : ∃ pr, Hid ((es.getD (k - 1) e0).1 = pr) := ⟨_, rfl⟩
        rw [HPR.out] at hlk hpc
        have hw1 : IntKind.i64.wrap ((k : Int) - 1) = ((k - 1 : Nat) : Int) := (IntWalk.i64_in _ ⟨by omega, by omega⟩).trans (by omega)
        have hi1 : ((k - 1 : Nat) : Int) < (k : Int) := by omega
        have hk0 : 0 < k := by omega
        have HLK : Hid (lastK es = some pr) := hlk
        have HPC : Hid (W2.cell? ⟨rb, (k - 1) * 3, none⟩ = some (.string pr)) := hpc
        clear hrc hlk HPR
        generalize hk1 : k - 1 = k1 at *
        clear hk1
        by_cases hle : kLeb kx pr = true
        · have hle2 : (Op.bytesLess kx.toList pr.toList || kx.toList == pr.toList) = true := hle
          by_cases h12 : (pr.size : Int) < 12
          · have HK : Hid (dnK zs (lastK es) p1 = some (pr ++ txB [nxV zs px 256], nxS zs px)) := by
              rw [Hid, HLK.out]
              show (if kLeb (dtR zs p1 12).1 pr = true then (if pr.size < 12 then some (pr ++ txB [nxV zs (dtR zs p1 12).2 256], nxS zs (dtR zs p1 12).2) else none) else some (dtR zs p1 12)) = _
              rw [HKX.out, if_pos hle, if_pos (by omega), HPX.out]
            clear HKX HPX hle
            go_quiet (fail)
            have hE3 : De w base g a c zs X 1 (.slice (some ⟨rb, 0, none⟩) k vc) es px eb (kx, ByteArray.empty, 0) (W2.drewN nq) := HE2.out.below (below_drewN (Below.refl _ _) _)
            have hpc3 : (W2.drewN nq).cell? ⟨rb, k1 * 3, none⟩ = some (.string pr) := HPC.out
            clear e20 e21 e22 xk2 xv2 HE2 hpc HPC ef2
            generalize W2.drewN nq = W3 at *
            obtain ⟨e30, e31, e32, ef3, xk3, xv3⟩ := hE3.cells
            have HE3 : Hid _ := hE3
            clear hE3
            go_wp2_with fail
            refine (l1Next_x base g a c zs px 256 (by decide) (by decide) _ HE3.out.dn.src).mono ?_
            rintro e w4 ⟨rfl, hs4, hf4⟩
            have hE4 := HE3.out.call hs4 hf4
            have hv := nxV_in zs px (n := 256) (by decide) (by decide)
            generalize nxV zs px 256 = vb at *
            have hcv := conv_one w4 vb hv w4.heap.size rfl
            have hwv : IntKind.u8.wrap vb = vb := IntWalk.u8_in _ ⟨by omega, by omega⟩
            have hts : (txB [vb]).size = 1 := txB_size [vb]
            have hadd : ∀ W : World, (Op.stringOp .add pr (txB [vb])).run Tryz.prog W = .ok (.string (pr ++ txB [vb])) W := fun W => run_string_add_sum (P := Tryz.prog) (w := W) pr (txB [vb]) (by omega)
            have hE5 := hE4.below (belowA w4 (.cells #[.int .u8 vb] 5))
            obtain ⟨p2, HP2⟩ : ∃ p2, Hid (nxS zs px = p2) := ⟨_, rfl⟩
            rw [HP2.out] at hE5 HK
            have HE5 : Hid _ := hE5
            obtain ⟨e40, e41, e42, ef4, xk4, xv4⟩ := hE5.cells
            have ef40 := ef4 0
            clear e30 e31 e32 ef3 xk3 xv3 HE3 hs4 hf4 hE4 hE5 ef4 hpc3 HP2
            go_upto_region 13 with fail
            have hE3 := HE5.out.set0 (pr ++ txB [vb])
            simp only at hE3
            clear e40 e41 e42 ef40 xk4 xv4 HE5 hcv hadd hts hwv hv
            generalize (w4.alloc (.cells #[.int .u8 vb] 5)).setCell ⟨eb, 0, none⟩ (.string (pr ++ txB [vb])) = W3 at *
            generalize pr ++ txB [vb] = key at *
            obtain ⟨va, HVA⟩ : ∃ va : Option Addr, Hid (some ⟨rb, 0, none⟩ = va) := ⟨_, rfl⟩
            rw [HVA.out] at hE3 hvf ⊢
            have HE3 : Hid (De w base g a c zs X 1 (.slice va k vc) es p2 eb (key, ByteArray.empty, 0) W3) := hE3
            obtain ⟨e30, e31, e32, ef3, xk3, xv3⟩ := HE3.out.cells
            have ef31 := ef3 1
            clear hE3 ef3
            go_wp2_with fail
            refine (l2DrawText_x base g a c zs p2 10 (by omega) _ HE3.out.dn.src).mono ?_
            rintro e w5 ⟨rfl, hs5, hf5⟩
            have HE5 : Hid _ := HE3.out.call hs5 hf5
            obtain ⟨e50, e51, e52, ef5, xk5, xv5⟩ := HE5.out.cells
            have ef51 := ef5 1
            have HRN : Hid (dnL zs 1 (es ++ [(key, (dtR zs p2 10).1, 0)]) (dtR zs p2 10).2 m = R) := by
              have q := dnL_some (kd := 1) (m := m) HK.out
              rw [dnE_leaf] at q
              rw [Hid, ← HR.out, q]
            obtain ⟨sy, HSY⟩ : ∃ sy, Hid ((dtR zs p2 10).1 = sy) := ⟨_, rfl⟩
            obtain ⟨pN, HPN⟩ : ∃ pN, Hid ((dtR zs p2 10).2 = pN) := ⟨_, rfl⟩
            rw [HSY.out, HPN.out] at HRN
            rw [HPN.out] at HE5
            rw [HSY.out]
            clear e30 e31 e32 ef31 xk3 xv3 hs5 hf5 ef5
            go_upto_region 16 with fail
            obtain ⟨W6, HW6⟩ : ∃ W6, Hid (w5.setCell ⟨eb, 1, none⟩ (.string sy) = W6) := ⟨_, rfl⟩
            have HE6 : Hid (De w base g a c zs X 1 (.slice va k vc) es pN eb (key, sy, 0) W6) := by rw [← HW6.out]; exact HE5.out.set1 sy
            rw [HW6.out]
            clear HW6 e50 e51 e52 ef51 xk5 xv5 HE5 HE3 HSY HPN
            obtain ⟨W7, HW7⟩ : ∃ W7, Hid (W6.alloc (.cells #[.string key, .string sy, .int .i64 0] 52) = W7) := ⟨_, rfl⟩
            have hD7 := HE6.out.dn.below (belowA W6 (.cells #[.string key, .string sy, .int .i64 0] 52))
            rw [HW7.out] at hD7
            have HNW : Hid (W7.heap[W6.heap.size]? = some (.cells #[.string key, .string sy, .int .i64 0] 52 (0, 0))) := by rw [← HW7.out]; exact heap_alloc_new _ _
            obtain ⟨e60, e61, e62, ef6, xk6, xv6⟩ := HE6.out.cells
            simp only at e60 e61 e62
            have HD7 : Hid _ := hD7
            have HLB : Hid (X + 1 ≤ W7.heap.size) := (Array.getElem?_eq_some_iff.1 hD7.box).1
            have HOWN7 : Hid (W7.ownsRow (X + 1) 52 3 (.slice va k vc) k (es.flatMap flatE)) := by have q := hD7.own; rw [hkk] at q; exact q
            have HX7 : Hid _ := hD7.box
            clear hD7
            go_wp2_with (first | (at_builtin; rw [HW7.out]; refine wpList_appendT rfl _ _ 23 52 _ 3 40 Tryz.underlying23 infoEntry rfl (by decide) rfl (base := X + 1) HOWN7.out rfl ⟨W6.heap.size, 0, none⟩ 1 1 rfl [.string key, .string sy, .int .i64 0] rfl (by intro j u hj; rw [Addr.add_mid, Nat.zero_add]; simpa [World.cell?, HNW.out] using hj) (fun u hm => List.all_eq_true.1 (show ([.string key, .string sy, .int .i64 0] : List Value).all (·.oneCell') = true from rfl) u hm) (by omega) (by omega) HLB.out ?_; intro v' w8 hown8 hns8 hbl8; have hX8 := hns8.cells HX7.out (by decide); have y1 : w8.cell? ⟨X, 1, none⟩ = some (.slice va k vc) := (cell_of_row w8 X 1 _ _ _ hX8).trans rfl; have yf : w8.frozen? ⟨X, 1, none⟩ = false := frozen_of_row w8 X _ _ _ hX8; obtain ⟨ya, yc, rfl, hyf⟩ := owns_form hown8) | go_in)
            have hown9 : w8.ownsRow (X + 1) 52 3 (.slice ya (k + 1) yc) (k + 1) ((es ++ [(key, sy, 0)]).flatMap flatE) := by rw [flat_snoc]; exact hown8
            have hr8 := hns8.cells HD7.out.res (by decide)
            have hXX := HD7.out.hX
            have hgg := HD7.out.glt
            have hlo := HD7.out.src.lo
            have hf8 : Frm (fun b => X + 1 ≤ b) W7 w8 := ⟨hbl8.os, hbl8.tape, hbl8.output, hbl8.size, fun i _ hn => hbl8.block i (by omega)⟩
            have hs8 : SrcX base g a c zs pN w8 := HD7.out.src.frm hf8 (by omega) (fun b hb => by omega)
            have hX9 : (w8.setCell ⟨X, 1, none⟩ (.slice ya (k + 1) yc)).heap[X]? = some (.cells #[.int .i64 1, .slice ya (k + 1) yc] 25 (0, 0)) := by simpa using heap_setCell_same w8 X 1 _ _ (.slice ya (k + 1) yc) hX8
            have HD9 : Hid (Dn w base g a c zs X 1 (.slice ya (k + 1) yc) (es ++ [(key, sy, 0)]) pN (w8.setCell ⟨X, 1, none⟩ (.slice ya (k + 1) yc))) := by
              refine ⟨(Below.heap_setCell _ ⟨X, 1, none⟩ _ _ (by show w.heap.size ≠ X; omega)).trans hr8, hX9, ?_, hXX, hs8.frm (S := fun b => b = X) ⟨rfl, rfl, rfl, by simp [World.setCell], fun k _ hn => Below.heap_setCell _ _ _ _ hn⟩ (by show ¬ g = X; omega) (fun b hb => by omega), ?_, hgg⟩
              · rw [List.length_append, hkk]
                exact owns_set hown9 _ (by show X < X + 1; omega) _
              · have hfw := HD7.out.frm
                refine ⟨hbl8.os.trans hfw.os, hbl8.tape.trans hfw.tape, hbl8.output.trans hfw.output, Nat.le_trans hfw.size (Nat.le_trans hbl8.size (by simp [World.setCell])), fun i hi hn => ?_⟩
                exact (Below.heap_setCell _ ⟨X, 1, none⟩ _ _ (by show i ≠ X; omega)).trans ((hbl8.block i (by omega)).trans (hfw.block i hi hn))
            clear y1 yf hX8 hr8 hX9 hown9 hown8 e60 e61 e62 xk6 xv6
            go_roundw
            case rel => exact ⟨es ++ [(key, sy, 0)], _, pN, m, by rw [List.length_append, hkk]; show k + 1 + m = n; omega, by rw [List.length_append, hkk]; first | rfl | go_num, HRN.out, HD9.out⟩
            case measure => simp [intOf]; omega
          · have HK : Hid (dnK zs (lastK es) p1 = none) := by
              rw [Hid, HLK.out]
              show (if kLeb (dtR zs p1 12).1 pr = true then (if pr.size < 12 then some (pr ++ txB [nxV zs (dtR zs p1 12).2 256], nxS zs (dtR zs p1 12).2) else none) else some (dtR zs p1 12)) = _
              rw [HKX.out, if_pos hle, if_neg (by omega)]
            have hRe : R = (es, px) := by rw [← HR.out, dnL_none HK.out, HPX.out]
            clear HKX HPX hle
            go_quiet (fail)
            have hE3 : De w base g a c zs X 1 (.slice (some ⟨rb, 0, none⟩) k vc) es px eb (kx, ByteArray.empty, 0) (W2.drewN nq) := HE2.out.below (below_drewN (Below.refl _ _) _)
            have hpc3 : (W2.drewN nq).cell? ⟨rb, k1 * 3, none⟩ = some (.string pr) := HPC.out
            clear e20 e21 e22 xk2 xv2 HE2 hpc HPC ef2
            generalize W2.drewN nq = wr2 at *
            obtain ⟨e30, e31, e32, ef3, xk3, xv3⟩ := hE3.cells
            have hDR : Dn w base g a c zs X 1 (.slice (some ⟨rb, 0, none⟩) k vc) R.1 R.2 wr2 := by rw [hRe]; exact hE3.dn
            have hlR : R.1.length = k := by rw [hRe]; exact hkk
            clear hE3 ef3 hRe HR
            generalize hwr2 : wr2 = wr3 at *
            have hrd : NRead wr3 (.slice (some ⟨rb, 0, none⟩) k vc) R.1 := by
              have q := hDR.own
              rw [hlR] at q
              have q2 := owns_N (rs := R.1) (a := (some ⟨rb, 0, none⟩)) (c := vc) (by rw [hlR]; exact q)
              rw [hlR] at q2
              exact q2
            have HRD : Hid (NRead wr3 (.slice (some ⟨rb, 0, none⟩) k vc) R.1) := hrd
            have HFS : Hid (Fsh (X + 1) ((some ⟨rb, 0, none⟩))) := hvf
            have hres := hDR.res
            have hbox := hDR.box
            have x0 : wr3.cell? ⟨X, 0, none⟩ = some (.int .i64 1) := (cell_of_row wr3 X 0 _ _ _ hbox).trans rfl
            have x1 : wr3.cell? ⟨X, 1, none⟩ = some (.slice (some ⟨rb, 0, none⟩) k vc) := (cell_of_row wr3 X 1 _ _ _ hbox).trans rfl
            have xf0 : wr3.frozen? ⟨X, 0, none⟩ = false := frozen_of_row wr3 X _ _ _ hbox
            have xf1 : wr3.frozen? ⟨X, 1, none⟩ = false := frozen_of_row wr3 X _ _ _ hbox
            obtain ⟨r0, r1, r2, r3⟩ := row2 hres
            have hXX := hDR.hX
            have hSS := hDR.src
            have hFF := hDR.frm
            have HEND : Hid (NRead ((wr3.setCell ⟨w.heap.size, 0, none⟩ (.int .i64 1)).setCell ⟨w.heap.size, 1, none⟩ (.slice (some ⟨rb, 0, none⟩) k vc)) (.slice (some ⟨rb, 0, none⟩) k vc) R.1 ∧ SrcX base g a c zs R.2 ((wr3.setCell ⟨w.heap.size, 0, none⟩ (.int .i64 1)).setCell ⟨w.heap.size, 1, none⟩ (.slice (some ⟨rb, 0, none⟩) k vc)) ∧ Frm (· = g) w ((wr3.setCell ⟨w.heap.size, 0, none⟩ (.int .i64 1)).setCell ⟨w.heap.size, 1, none⟩ (.slice (some ⟨rb, 0, none⟩) k vc))) := by
              have hu : Upd w.heap.size (w.heap.size + 1) wr3 ((wr3.setCell ⟨w.heap.size, 0, none⟩ (.int .i64 1)).setCell ⟨w.heap.size, 1, none⟩ (.slice (some ⟨rb, 0, none⟩) k vc)) := ((Upd.refl _ _ _).setCell (p := ⟨w.heap.size, 0, none⟩) (Nat.le_refl _) (Nat.lt_succ_self _) _).setCell (p := ⟨w.heap.size, 1, none⟩) (Nat.le_refl _) (Nat.lt_succ_self _) _
              have hfu : Frm (fun b => b = w.heap.size) wr3 ((wr3.setCell ⟨w.heap.size, 0, none⟩ (.int .i64 1)).setCell ⟨w.heap.size, 1, none⟩ (.slice (some ⟨rb, 0, none⟩) k vc)) := ⟨hu.os, hu.tape, hu.output, hu.size, fun i hi hn => hu.block i hi (by omega)⟩
              have hlo := hSS.lo
              refine ⟨HRD.out.upd (fun q hq => by have := HFS.out q hq; omega) hu, hSS.frm hfu (by show ¬ g = w.heap.size; omega) (fun b hb => by omega), ?_⟩
              exact ⟨hu.os.trans hFF.os, hu.tape.trans hFF.tape, hu.output.trans hFF.output, Nat.le_trans hFF.size hu.size, fun i hi hn => (hu.block i (by have := hFF.size; omega) (.inl hi)).trans (hFF.block i hi hn)⟩
            have HVE : Hid (V = (1, R.1)) := by rw [Hid, HV.out, if_neg (by omega)]
            clear hrd hres hbox hXX hSS hFF hDR
            go_wp2
            refine bodyPost_ret (v := .agg #[.int .i64 1, .slice ((some ⟨rb, 0, none⟩)) k vc]) (by simp [results, Tryz.results25, go_sem, r0, r1]) rfl ⟨⟨(some ⟨rb, 0, none⟩), vc, ?_, ?_⟩, HEND.out.2⟩
            · rw [HVE.out]; show Ending.returned (.agg #[.int .i64 1, .slice ((some ⟨rb, 0, none⟩)) k vc]) = Ending.returned (.agg #[.int .i64 1, .slice ((some ⟨rb, 0, none⟩)) R.1.length vc]); rw [hlR]
            · rw [HVE.out]; show NRead _ (.slice ((some ⟨rb, 0, none⟩)) R.1.length vc) R.1; rw [hlR]; exact HEND.out.1
        · have hle2 : (Op.bytesLess kx.toList pr.toList || kx.toList == pr.toList) = false := by simpa [kLeb] using hle
          have HK : Hid (dnK zs (lastK es) p1 = some (kx, px)) := by
            rw [Hid, HLK.out]
            show (if kLeb (dtR zs p1 12).1 pr = true then (if pr.size < 12 then some (pr ++ txB [nxV zs (dtR zs p1 12).2 256], nxS zs (dtR zs p1 12).2) else none) else some (dtR zs p1 12)) = _
            rw [HKX.out, if_neg hle, ← HKX.out, ← HPX.out]
          clear HKX HPX hle
          go_quiet (fail)
          have hE3 : De w base g a c zs X 1 (.slice (some ⟨rb, 0, none⟩) k vc) es px eb (kx, ByteArray.empty, 0) (W2.drewN nq) := HE2.out.below (below_drewN (Below.refl _ _) _)
          clear e20 e21 e22 xk2 xv2 HE2 hpc HPC ef2
          generalize W2.drewN nq = W3 at *
          generalize px = p2 at *
          generalize kx = key at *
          obtain ⟨va, HVA⟩ : ∃ va : Option Addr, Hid (some ⟨rb, 0, none⟩ = va) := ⟨_, rfl⟩
          rw [HVA.out] at hE3 hvf ⊢
          have HE3 : Hid (De w base g a c zs X 1 (.slice va k vc) es p2 eb (key, ByteArray.empty, 0) W3) := hE3
          obtain ⟨e30, e31, e32, ef3, xk3, xv3⟩ := HE3.out.cells
          have ef31 := ef3 1
          clear hE3 ef3
          go_wp2_with fail
          refine (l2DrawText_x base g a c zs p2 10 (by omega) _ HE3.out.dn.src).mono ?_
          rintro e w5 ⟨rfl, hs5, hf5⟩
          have HE5 : Hid _ := HE3.out.call hs5 hf5
          obtain ⟨e50, e51, e52, ef5, xk5, xv5⟩ := HE5.out.cells
          have ef51 := ef5 1
          have HRN : Hid (dnL zs 1 (es ++ [(key, (dtR zs p2 10).1, 0)]) (dtR zs p2 10).2 m = R) := by
            have q := dnL_some (kd := 1) (m := m) HK.out
            rw [dnE_leaf] at q
            rw [Hid, ← HR.out, q]
          obtain ⟨sy, HSY⟩ : ∃ sy, Hid ((dtR zs p2 10).1 = sy) := ⟨_, rfl⟩
          obtain ⟨pN, HPN⟩ : ∃ pN, Hid ((dtR zs p2 10).2 = pN) := ⟨_, rfl⟩
          rw [HSY.out, HPN.out] at HRN
          rw [HPN.out] at HE5
          rw [HSY.out]
          clear e30 e31 e32 ef31 xk3 xv3 hs5 hf5 ef5
          go_upto_region 16 with fail
          obtain ⟨W6, HW6⟩ : ∃ W6, Hid (w5.setCell ⟨eb, 1, none⟩ (.string sy) = W6) := ⟨_, rfl⟩
          have HE6 : Hid (De w base g a c zs X 1 (.slice va k vc) es pN eb (key, sy, 0) W6) := by rw [← HW6.out]; exact HE5.out.set1 sy
          rw [HW6.out]
          clear HW6 e50 e51 e52 ef51 xk5 xv5 HE5 HE3 HSY HPN
          obtain ⟨W7, HW7⟩ : ∃ W7, Hid (W6.alloc (.cells #[.string key, .string sy, .int .i64 0] 52) = W7) := ⟨_, rfl⟩
          have hD7 := HE6.out.dn.below (belowA W6 (.cells #[.string key, .string sy, .int .i64 0] 52))
          rw [HW7.out] at hD7
          have HNW : Hid (W7.heap[W6.heap.size]? = some (.cells #[.string key, .string sy, .int .i64 0] 52 (0, 0))) := by rw [← HW7.out]; exact heap_alloc_new _ _
          obtain ⟨e60, e61, e62, ef6, xk6, xv6⟩ := HE6.out.cells
          simp only at e60 e61 e62
          have HD7 : Hid _ := hD7
          have HLB : Hid (X + 1 ≤ W7.heap.size) := (Array.getElem?_eq_some_iff.1 hD7.box).1
          have HOWN7 : Hid (W7.ownsRow (X + 1) 52 3 (.slice va k vc) k (es.flatMap flatE)) := by have q := hD7.own; rw [hkk] at q; exact q
          have HX7 : Hid _ := hD7.box
          clear hD7
          go_wp2_with (first | (at_builtin; rw [HW7.out]; refine wpList_appendT rfl _ _ 23 52 _ 3 40 Tryz.underlying23 infoEntry rfl (by decide) rfl (base := X + 1) HOWN7.out rfl ⟨W6.heap.size, 0, none⟩ 1 1 rfl [.string key, .string sy, .int .i64 0] rfl (by intro j u hj; rw [Addr.add_mid, Nat.zero_add]; simpa [World.cell?, HNW.out] using hj) (fun u hm => List.all_eq_true.1 (show ([.string key, .string sy, .int .i64 0] : List Value).all (·.oneCell') = true from rfl) u hm) (by omega) (by omega) HLB.out ?_; intro v' w8 hown8 hns8 hbl8; have hX8 := hns8.cells HX7.out (by decide); have y1 : w8.cell? ⟨X, 1, none⟩ = some (.slice va k vc) := (cell_of_row w8 X 1 _ _ _ hX8).trans rfl; have yf : w8.frozen? ⟨X, 1, none⟩ = false := frozen_of_row w8 X _ _ _ hX8; obtain ⟨ya, yc, rfl, hyf⟩ := owns_form hown8) | go_in)
          have hown9 : w8.ownsRow (X + 1) 52 3 (.slice ya (k + 1) yc) (k + 1) ((es ++ [(key, sy, 0)]).flatMap flatE) := by rw [flat_snoc]; exact hown8
          have hr8 := hns8.cells HD7.out.res (by decide)
          have hXX := HD7.out.hX
          have hgg := HD7.out.glt
          have hlo := HD7.out.src.lo
          have hf8 : Frm (fun b => X + 1 ≤ b) W7 w8 := ⟨hbl8.os, hbl8.tape, hbl8.output, hbl8.size, fun i _ hn => hbl8.block i (by omega)⟩
          have hs8 : SrcX base g a c zs pN w8 := HD7.out.src.frm hf8 (by omega) (fun b hb => by omega)
          have hX9 : (w8.setCell ⟨X, 1, none⟩ (.slice ya (k + 1) yc)).heap[X]? = some (.cells #[.int .i64 1, .slice ya (k + 1) yc] 25 (0, 0)) := by simpa using heap_setCell_same w8 X 1 _ _ (.slice ya (k + 1) yc) hX8
          have HD9 : Hid (Dn w base g a c zs X 1 (.slice ya (k + 1) yc) (es ++ [(key, sy, 0)]) pN (w8.setCell ⟨X, 1, none⟩ (.slice ya (k + 1) yc))) := by
            refine ⟨(Below.heap_setCell _ ⟨X, 1, none⟩ _ _ (by show w.heap.size ≠ X; omega)).trans hr8, hX9, ?_, hXX, hs8.frm (S := fun b => b = X) ⟨rfl, rfl, rfl, by simp [World.setCell], fun k _ hn => Below.heap_setCell _ _ _ _ hn⟩ (by show ¬ g = X; omega) (fun b hb => by omega), ?_, hgg⟩
            · rw [List.length_append, hkk]
              exact owns_set hown9 _ (by show X < X + 1; omega) _
            · have hfw := HD7.out.frm
              refine ⟨hbl8.os.trans hfw.os, hbl8.tape.trans hfw.tape, hbl8.output.trans hfw.output, Nat.le_trans hfw.size (Nat.le_trans hbl8.size (by simp [World.setCell])), fun i hi hn => ?_⟩
              exact (Below.heap_setCell _ ⟨X, 1, none⟩ _ _ (by show i ≠ X; omega)).trans ((hbl8.block i (by omega)).trans (hfw.block i hi hn))
          clear y1 yf hX8 hr8 hX9 hown9 hown8 e60 e61 e62 xk6 xv6
          go_roundw
          case rel => exact ⟨es ++ [(key, sy, 0)], _, pN, m, by rw [List.length_append, hkk]; show k + 1 + m = n; omega, by rw [List.length_append, hkk]; first | rfl | go_num, HRN.out, HD9.out⟩
          case measure => simp [intOf]; omega
end Go.Proofs.YtfbjagjgofdheaaGreatDoor

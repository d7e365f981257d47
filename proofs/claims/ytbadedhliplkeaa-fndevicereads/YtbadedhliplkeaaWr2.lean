import Derived.Test.YtbadedhliplkeaaWr1
import Derived.Deep.RegionLaw
namespace Go.Proofs.Ytbadedhliplkeaa
open Go.RowKit

theorem PRow.form_snoc {S : Nat → Prop} {w : World} {v : Value} {ps : List (Int × List Int)} {e : Int × List Int} (h : PRow S w v (ps ++ [e])) : ∃ a cap, v = .slice a (ps.length + 1) cap := by
  obtain ⟨a, cap, h⟩ := h.form
  exact ⟨a, cap, by simpa using h⟩

theorem write_end {S : Nat → Prop} {p : Nat} {w w1 w2 w3 : World} {x u c v' : Value} {t : TypeId} {ps : List (Int × List Int)} (hP3 : Box3 w3 p x u c t) (hR3 : PRow S w3 v' ps) (hF3 : Frm S w2 w3) (hb : Below w1.drew.heap.size w1.drew w2) (hb1 : Below w.heap.size w w1) (hpS : ¬ S p) :
    Box3 (w3.setCell ⟨p, 2, none⟩ v') p x u v' t ∧ PRow S (w3.setCell ⟨p, 2, none⟩ v') v' ps ∧ Frm (fun k => S k ∨ k = p) w (w3.setCell ⟨p, 2, none⟩ v') := by
  refine ⟨?_, hR3.kept (by simp) (fun b hb _ => Below.heap_setCell _ _ _ _ (fun e => hpS (by have e' : b = p := e; exact e' ▸ hb))), ?_⟩
  · have := heap_setCell_same w3 p 2 _ t v' hP3
    simpa [Box3] using this
  · have h1 : Frm (fun k => S k ∨ k = p) w w1 := Frm.of_below hb1
    have h2 : Frm (fun k => S k ∨ k = p) w1 w2 := Frm.of_below ((Below.refl _ _).drew.trans hb)
    have h3 : Frm (fun k => S k ∨ k = p) w2 w3 := hF3.wider (fun k hk => .inl hk)
    exact ((h1.trans h2).trans h3).setCell (p := ⟨p, 2, none⟩) (Or.inr rfl) _

set_option maxRecDepth 100000 in
set_option maxHeartbeats 2000000 in
theorem write_yes (S : Nat → Prop) (p : Nat) (B q : Int) (u c : Value) (ea : Option Addr) (ec : Nat) (ds : List Int) (ps : List (Int × List Int)) (w : World) (hP : Box3 w p (.int .i64 B) u c 25) (hR : PRow S w c ps) (hpS : ¬ S p) (hS : ∀ k, w.heap.size ≤ k → S k) (hB1 : 1 ≤ B) (hB2 : B ≤ 512)
    (hq : inB q 0 (B - 1) = true) (hd : ds.length = 128) (hn : ps.length < 2048) (hv : Bts w (.slice ea ds.length ec) ds) :
    Calls Try.prog 46 #[.pointer (some ⟨p, 0, none⟩), .int .i64 q, .slice ea ds.length ec] w fun e w' => ∃ c', e = .returned (.int .i64 0) ∧ Box3 w' p (.int .i64 B) u c' 25 ∧ PRow S w' c' (ps ++ [(q, ds)]) ∧ Frm (fun k => S k ∨ k = p) w w' := by
  obtain ⟨ca, cc, rfl⟩ := hR.form
  obtain ⟨p0, p1, p2⟩ := hP.cells
  go_enter Try.func46, Try.ntmps46
  go_wp2_with fail
  refine (has_any B q _ _ _ hB1 hB2).mono ?_
  rintro e w1 ⟨rfl, hb1⟩
  rw [hq]
  have hP1 := hP.below hb1
  have hR1 := hR.below hb1
  have hv1 := hv.below hb1
  have hS1 : ∀ k, w1.heap.size ≤ k → S k := fun k hk => hS k (by have := hb1.size; omega)
  rw [hd] at hv1
  have hsh := hv1.shape
  obtain ⟨_, _, he, hx⟩ := hsh
  rw [hd] at he hx
  simp only [Value.slice.injEq, true_and] at he
  obtain ⟨rfl, rfl⟩ := he
  obtain ⟨eb, eo, rfl, -⟩ := hx (by omega)
  have hl : (ps.length : Int) < 2048 := by omega
  rw [hd]
  have HD : Hid (ds.length = 128) := hd
  have hP1' : Box3 w1.drew p (.int .i64 B) u (.slice ca ps.length cc) 25 := hP1
  have hR1' : PRow S w1.drew (.slice ca ps.length cc) ps := hR1.below (Below.refl _ _).drew
  clear p0 p1 p2 hx hq hP hR hv hd hS hR1
  obtain ⟨p0, p1, p2⟩ := hP1.cells
  go_wp2_with fail
  go_region_law (first | (refine step_appendR (by rfl) _ _ (by rfl) q ds rfl hR1' h3 h1 h4 h5 hS1 (by rfl) ⟨_, by rfl, by rfl⟩ (by omega) ?_; intro v' w3 hR3 hF3; obtain ⟨va, vn, rfl⟩ := hR3.form_snoc; have hP3 : Box3 w3 p (.int .i64 B) u (.slice ca ps.length cc) 25 := (hF3.block p hP2.lt hpS).trans hP2; obtain ⟨r0, r1, r2⟩ := hP3.cells; have hfr := hP3.free) | (go_simp; go_at_call 60; refine (clone_any eb eo 128 ec ds _ HD.out (by omega) (by omega) ?_).mono ?_; exact hv1.below (Below.refl _ _).drew; rintro e w2 ⟨v, gn, rfl, h1, h2, h3⟩; obtain ⟨vc, rfl, hvc⟩ := h2.form; have h4 := h2.lt; have h5 := h2.own; have hP2 := Box3.below hP1' h3; have hpl := hP2.lt; obtain ⟨t0, t1, t2⟩ := hP2.cells))
  all_goals
    obtain ⟨e1, e2, e3⟩ := write_end hP3 hR3 hF3 h3 hb1 hpS
    clear hP3 hR3 hF3 h1 h2 h3 h4 h5 hP2 hP1 hP1' hR1' t0 t1 t2 r0 r1 r2 p0 p1 p2 hfr
    go_wp2
    go_ret
    exact ⟨_, rfl, e1, e2, e3⟩
end Go.Proofs.Ytbadedhliplkeaa

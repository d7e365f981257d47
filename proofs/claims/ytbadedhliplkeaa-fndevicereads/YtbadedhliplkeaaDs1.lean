import Derived.Test.YtbadedhliplkeaaFl1
import Derived.Deep.RegionLaw
namespace Go.Proofs.Ytbadedhliplkeaa
open Go.RowKit
set_option linter.unusedVariables false

theorem set_ne (w : World) (g i j : Nat) (v : Value) (h : i ≠ j) : (w.setCell ⟨g, i, none⟩ v).cell? ⟨g, j, none⟩ = w.cell? ⟨g, j, none⟩ := World.cell?_setCell_other _ _ _ _ (by intro e; simp only [Addr.mk.injEq] at e; omega)
theorem set_far (w : World) (g b i j : Nat) (v : Value) (h : b ≠ g) : (w.setCell ⟨g, i, none⟩ v).cell? ⟨b, j, none⟩ = w.cell? ⟨b, j, none⟩ := World.cell?_setCell_other _ _ _ _ (by intro e; simp only [Addr.mk.injEq] at e; omega)
theorem Frm.mono {S T : Nat → Prop} {w w' : World} (h : Frm S w w') (k : ∀ b, b < w.heap.size → S b → T b) : Frm T w w' := ⟨h.os, h.tape, h.output, h.size, fun i hi hn => h.block i hi fun e => hn (k i hi e)⟩
theorem Frm.drew {S : Nat → Prop} {w w' : World} (h : Frm S w w') : Frm S w w'.drew := ⟨h.os, h.tape, h.output, h.size, h.block⟩

/-- the source's number behind one draw -/
def nxN (s : Int) : Int := IntKind.u64.wrap (IntKind.u64.wrap (s * 6364136223846793005) + 1442695040888963407)
/-- the source behind one draw -/
def nxS (zs : List Int) (p : Nat × Int) : Nat × Int := (if p.1 < zs.length then p.1 + 1 else p.1, nxN p.2)
/-- behind k draws -/
def adv (zs : List Int) (p : Nat × Int) : Nat → Nat × Int
  | 0 => p
  | k + 1 => nxS zs (adv zs p k)
/-- what is drawn below n -/
def nxV (zs : List Int) (p : Nat × Int) (n : Int) : Int := if p.1 < zs.length then wrap64 ((bits .xor .u64 (nxN p.2 / 8589934592) (IntKind.u64.wrap (zs.getD p.1 0))).tmod n) else wrap64 ((nxN p.2 / 8589934592).tmod n)

theorem u64_nonneg (x : Int) : 0 ≤ IntKind.u64.wrap x ∧ IntKind.u64.wrap x < 18446744073709551616 := by simp only [IntKind.wrap, IntKind.signed, IntKind.bits]; simp; omega
theorem tmod_in {x n : Int} (hx : 0 ≤ x) (hn : 0 < n) (hm : n ≤ 9223372036854775807) : 0 ≤ wrap64 (x.tmod n) ∧ wrap64 (x.tmod n) < n := by
  rw [Int.tmod_eq_emod_of_nonneg hx]
  have h1 := Int.emod_nonneg x (show n ≠ 0 by omega)
  have h2 := Int.emod_lt_of_pos x hn
  have hw : wrap64 (x % n) = x % n := by unfold wrap64; omega
  rw [hw]
  exact ⟨h1, h2⟩
theorem xor_nonneg {a b : Int} (h1 : 0 ≤ a) (h2 : a < 18446744073709551616) (h3 : 0 ≤ b) (h4 : b < 18446744073709551616) : 0 ≤ bits .xor .u64 a b := by
  rw [u64_xor a b h1 h2 h3 h4]; omega
theorem nxV_in (zs : List Int) (p : Nat × Int) {n : Int} (hn : 0 < n) (hm : n ≤ 9223372036854775807) : 0 ≤ nxV zs p n ∧ nxV zs p n < n := by
  have h := u64_nonneg (IntKind.u64.wrap (p.2 * 6364136223846793005) + 1442695040888963407)
  unfold nxV nxN
  split
  · exact tmod_in (xor_nonneg (by omega) (by omega) (u64_nonneg _).1 (u64_nonneg _).2) hn hm
  · exact tmod_in (by omega) hn hm

/-- block g holds a source over the bytes zs, at p -/
structure SrcX (base g : Nat) (a : Option Addr) (c : Nat) (zs : List Int) (p : Nat × Int) (w : World) : Prop where
  code : Bts w (.slice a zs.length c) zs
  old : 0 < zs.length → ∀ b off, a = some ⟨b, off, none⟩ → b < base
  lo : base ≤ g
  len : zs.length ≤ 1048576
  pos : p.1 ≤ zs.length
  cells : w.cell? ⟨g, 0, none⟩ = some (.slice a zs.length c) ∧ w.cell? ⟨g, 1, none⟩ = some (.int .i64 p.1) ∧ w.cell? ⟨g, 2, none⟩ = some (.int .u64 p.2) ∧ w.frozen? ⟨g, 0, none⟩ = false ∧ w.frozen? ⟨g, 1, none⟩ = false ∧ w.frozen? ⟨g, 2, none⟩ = false

theorem SrcX.heap {base g : Nat} {a : Option Addr} {c : Nat} {zs : List Int} {p : Nat × Int} {w w' : World} (h : SrcX base g a c zs p w) (e : w'.heap = w.heap) : SrcX base g a c zs p w' := by
  have e1 : ∀ p : Addr, w'.cell? p = w.cell? p := fun p => World.cell?_of_block (by rw [e])
  have e2 : ∀ p : Addr, w'.frozen? p = w.frozen? p := fun p => World.frozen?_of_block (by rw [e])
  exact ⟨h.code.kept fun _ _ _ => e1 _, h.old, h.lo, h.len, h.pos, by simpa only [e1, e2] using h.cells⟩
theorem SrcX.lt {base g : Nat} {a : Option Addr} {c : Nat} {zs : List Int} {p : Nat × Int} {w : World} (h : SrcX base g a c zs p w) : g < w.heap.size := World.block_lt_of_cell? _ _ h.cells.1
theorem SrcX.frm {S : Nat → Prop} {base g : Nat} {a : Option Addr} {c : Nat} {zs : List Int} {p : Nat × Int} {w w' : World} (h : SrcX base g a c zs p w) (k : Frm S w w') (hg : ¬ S g) (hb : ∀ b, S b → base ≤ b) : SrcX base g a c zs p w' := by
  have hlt := h.lt
  have e1 : ∀ o, w'.cell? ⟨g, o, none⟩ = w.cell? ⟨g, o, none⟩ := fun o => World.cell?_of_block (k.block g hlt hg)
  have e2 : ∀ o, w'.frozen? ⟨g, o, none⟩ = w.frozen? ⟨g, o, none⟩ := fun o => World.frozen?_of_block (k.block g hlt hg)
  refine ⟨⟨h.code.small, ?_⟩, h.old, h.lo, h.len, h.pos, by simpa only [e1, e2] using h.cells⟩
  obtain ⟨_, _, he, hc⟩ := h.code.shape
  refine ⟨_, _, he, fun hp => ?_⟩
  simp only [Value.slice.injEq, true_and] at he
  obtain ⟨rfl, rfl⟩ := he
  obtain ⟨b, off, rfl, hcell⟩ := hc hp
  refine ⟨b, off, rfl, fun i hi => (World.cell?_of_block (w := w) (k.block b (World.block_lt_of_cell? _ _ (hcell i hi)) fun e => ?_)).trans (hcell i hi)⟩
  have h1 := hb b e
  have h2 := h.old hp b off rfl
  omega
theorem SrcX.below {base g : Nat} {a : Option Addr} {c : Nat} {zs : List Int} {p : Nat × Int} {w w' : World} (h : SrcX base g a c zs p w) (k : Below w.heap.size w w') : SrcX base g a c zs p w' := h.frm (Frm.of_below (S := fun _ => False) k) (fun e => e) (fun _ e => e.elim)
theorem SrcX.stored {base g : Nat} {a : Option Addr} {c : Nat} {zs : List Int} {p : Nat × Int} {w : World} (h : SrcX base g a c zs p w) (s : Int) : SrcX base g a c zs (p.1, s) (w.setCell ⟨g, 2, none⟩ (.int .u64 s)) ∧ Frm (· = g) w (w.setCell ⟨g, 2, none⟩ (.int .u64 s)) := by
  obtain ⟨c0, c1, c2, f0, f1, f2⟩ := h.cells
  refine ⟨⟨⟨h.code.small, ?_⟩, h.old, h.lo, h.len, h.pos, (set_ne _ _ _ _ _ (by decide)).trans c0, (set_ne _ _ _ _ _ (by decide)).trans c1, World.cell?_setCell_same _ _ _ c2, (World.frozen?_setCell _ _ _ _).trans f0, (World.frozen?_setCell _ _ _ _).trans f1, (World.frozen?_setCell _ _ _ _).trans f2⟩, rfl, rfl, rfl, by simp [World.setCell], fun k _ hn => Below.heap_setCell _ _ _ _ hn⟩
  obtain ⟨_, _, he, hc⟩ := h.code.shape
  refine ⟨_, _, he, fun hp => ?_⟩
  simp only [Value.slice.injEq, true_and] at he
  obtain ⟨rfl, rfl⟩ := he
  obtain ⟨b, off, rfl, hcell⟩ := hc hp
  exact ⟨b, off, rfl, fun i hi => (set_far _ _ _ _ _ _ (by have h1 := h.old hp b off rfl; have h2 := h.lo; omega)).trans (hcell i hi)⟩
theorem SrcX.moved {base g : Nat} {a : Option Addr} {c : Nat} {zs : List Int} {p : Nat × Int} {w : World} (h : SrcX base g a c zs p w) (q : Nat) (hq : q ≤ zs.length) : SrcX base g a c zs (q, p.2) (w.setCell ⟨g, 1, none⟩ (.int .i64 q)) ∧ Frm (· = g) w (w.setCell ⟨g, 1, none⟩ (.int .i64 q)) := by
  obtain ⟨c0, c1, c2, f0, f1, f2⟩ := h.cells
  refine ⟨⟨⟨h.code.small, ?_⟩, h.old, h.lo, h.len, hq, (set_ne _ _ _ _ _ (by decide)).trans c0, World.cell?_setCell_same _ _ _ c1, (set_ne _ _ _ _ _ (by decide)).trans c2, (World.frozen?_setCell _ _ _ _).trans f0, (World.frozen?_setCell _ _ _ _).trans f1, (World.frozen?_setCell _ _ _ _).trans f2⟩, rfl, rfl, rfl, by simp [World.setCell], fun k _ hn => Below.heap_setCell _ _ _ _ hn⟩
  obtain ⟨_, _, he, hc⟩ := h.code.shape
  refine ⟨_, _, he, fun hp => ?_⟩
  simp only [Value.slice.injEq, true_and] at he
  obtain ⟨rfl, rfl⟩ := he
  obtain ⟨b, off, rfl, hcell⟩ := hc hp
  exact ⟨b, off, rfl, fun i hi => (set_far _ _ _ _ _ _ (by have h1 := h.old hp b off rfl; have h2 := h.lo; omega)).trans (hcell i hi)⟩

set_option maxHeartbeats 1000000 in
theorem l1Next_x (base g : Nat) (a : Option Addr) (c : Nat) (zs : List Int) (p : Nat × Int) (n : Int) (hn : 0 < n) (hm : n ≤ 9223372036854775807) (w : World) (hs : SrcX base g a c zs p w) :
    Calls Try.prog 39 #[.pointer (some ⟨g, 0, none⟩), .int .i64 n] w fun e w' => e = .returned (.int .i64 (nxV zs p n)) ∧ SrcX base g a c zs (nxS zs p) w' ∧ Frm (· = g) w w' := by
  have HS : Hid (SrcX base g a c zs p w) := hs
  obtain ⟨pos, s⟩ := p
  have hp := hs.pos
  obtain ⟨c0, c1, c2, f0, f1, f2⟩ := hs.cells
  simp only at hp c1 c2
  have hlen := hs.len
  have hn' : ¬ n ≤ 0 := by omega
  have hn0 : ¬ n = 0 := by omega
  have hnw : IntKind.u64.wrap n = n := by simp only [IntKind.wrap, IntKind.signed, IntKind.bits]; simp; omega
  have K0 := fun v => (set_ne w g 2 0 v (by decide)).trans c0
  have K1 := fun v => (set_ne w g 2 1 v (by decide)).trans c1
  by_cases hlt : pos < zs.length
  · have hi : (pos : Int) < (zs.length : Int) := by omega
    obtain ⟨_, _, he, hc⟩ := hs.code.shape
    simp only [Value.slice.injEq, true_and] at he
    obtain ⟨rfl, rfl⟩ := he
    obtain ⟨b, off, rfl, hcell⟩ := hc (by omega)
    have hbg : b ≠ g := by have := hs.old (by omega) b off rfl; have := hs.lo; omega
    have g1 := hcell pos hlt
    have K2 := fun v => (set_far w g b 2 (off + pos) v hbg).trans g1
    have HV : Hid (nxV zs (pos, s) n = wrap64 ((bits .xor .u64 (nxN s / 8589934592) (IntKind.u64.wrap (zs.getD pos 0))).tmod n)) := if_pos hlt
    have HX : Hid (nxS zs (pos, s) = (pos + 1, nxN s)) := by unfold nxS; rw [if_pos hlt]; rfl
    generalize zs.getD pos 0 = z at g1 K2 HV
    clear hc hcell hs
    go_enter Try.func39, Try.ntmps39
    go_wp2
    go_region_held3 (fun w' => w'.cell? ⟨g, 1, none⟩ = some (.int .i64 pos) ∧ w'.cell? ⟨g, 0, none⟩ = some (.slice (some ⟨b, off, none⟩) zs.length c)) (first | exact ⟨K1 _, K0 _⟩ | go_keep | assumption) (fail)
    go_wp2
    go_region_held3 (fun w' => w'.cell? ⟨g, 0, none⟩ = some (.slice (some ⟨b, off, none⟩) zs.length c) ∧ w'.cell? ⟨g, 1, none⟩ = some (.int .i64 pos) ∧ w'.cell? ⟨b, off + pos, none⟩ = some (.int .u8 z)) (first | exact ⟨K0 _, K1 _, K2 _⟩ | go_keep | assumption) (fail)
    go_wp2
    refine bodyPost_ret (by simp [results, Try.results39, go_sem]; rfl) rfl ?_
    obtain ⟨r1, r2⟩ := HS.out.stored (nxN s)
    obtain ⟨r3, r4⟩ := r1.moved (pos + 1) (by omega)
    rw [HV.out, HX.out]
    exact ⟨rfl, r3.heap rfl, (r2.trans r4).trans ⟨rfl, rfl, rfl, Nat.le_refl _, fun _ _ _ => rfl⟩⟩
  · have hi : ¬ (pos : Int) < (zs.length : Int) := by omega
    have HV : Hid (nxV zs (pos, s) n = wrap64 ((nxN s / 8589934592).tmod n)) := if_neg hlt
    have HX : Hid (nxS zs (pos, s) = (pos, nxN s)) := by unfold nxS; rw [if_neg hlt]; rfl
    clear hs
    go_enter Try.func39, Try.ntmps39
    go_wp2
    go_region_held3 (fun w' => w'.cell? ⟨g, 1, none⟩ = some (.int .i64 pos) ∧ w'.cell? ⟨g, 0, none⟩ = some (.slice a zs.length c)) (first | exact ⟨K1 _, K0 _⟩ | go_keep | assumption) (fail)
    go_wp2
    refine bodyPost_ret (by simp [results, Try.results39, go_sem]; rfl) rfl ?_
    obtain ⟨r1, r2⟩ := HS.out.stored (nxN s)
    rw [HV.out, HX.out]
    exact ⟨rfl, r1.heap rfl, r2.trans ⟨rfl, rfl, rfl, Nat.le_refl _, fun _ _ _ => rfl⟩⟩

/-- l1DrawBlocks -/
def dbV (zs : List Int) (p : Nat × Int) : Int := if nxV zs p 20 = 0 then 512 else if nxV zs p 20 = 1 then 8 else if nxV zs p 20 < 5 then 60 + nxV zs (nxS zs p) 200 else 10 + nxV zs (nxS zs p) 40
def dbS (zs : List Int) (p : Nat × Int) : Nat × Int := if nxV zs p 20 = 0 ∨ nxV zs p 20 = 1 then nxS zs p else nxS zs (nxS zs p)
theorem dbV_in (zs : List Int) (p : Nat × Int) : 8 ≤ dbV zs p ∧ dbV zs p ≤ 512 := by
  have h1 := nxV_in zs (nxS zs p) (n := 200) (by decide) (by decide)
  have h2 := nxV_in zs (nxS zs p) (n := 40) (by decide) (by decide)
  unfold dbV
  repeat' split
  all_goals omega

set_option maxHeartbeats 1000000 in
theorem l1DrawBlocks_x (base g : Nat) (a : Option Addr) (c : Nat) (zs : List Int) (p : Nat × Int) (w : World) (hs : SrcX base g a c zs p w) :
    Calls Try.prog 58 #[.pointer (some ⟨g, 0, none⟩)] w fun e w' => e = .returned (.int .i64 (dbV zs p)) ∧ SrcX base g a c zs (dbS zs p) w' ∧ Frm (· = g) w w' := by
  have HV : Hid (dbV zs p = if nxV zs p 20 = 0 then 512 else if nxV zs p 20 = 1 then 8 else if nxV zs p 20 < 5 then 60 + nxV zs (nxS zs p) 200 else 10 + nxV zs (nxS zs p) 40) := rfl
  have HX : Hid (dbS zs p = if nxV zs p 20 = 0 ∨ nxV zs p 20 = 1 then nxS zs p else nxS zs (nxS zs p)) := rfl
  go_enter Try.func58, Try.ntmps58
  go_wp2_with fail
  refine (l1Next_x base g a c zs p 20 (by decide) (by decide) _ hs).mono ?_
  rintro e w1 ⟨rfl, hs1, hf1⟩
  generalize nxV zs p 20 = k at HV HX ⊢
  by_cases h0 : k = 0
  · subst h0
    go_wp2
    exact bodyPost_ret (v := .int .i64 512) (by simp [results, Try.results58, go_sem]) rfl ⟨by rw [HV.out]; rfl, by rw [HX.out]; exact hs1, hf1⟩
  · have h0' : (k == 0) = false := by simpa using h0
    by_cases h1 : k = 1
    · subst h1
      go_wp2
      exact bodyPost_ret (v := .int .i64 8) (by simp [results, Try.results58, go_sem]) rfl ⟨by rw [HV.out]; rfl, by rw [HX.out]; exact hs1, hf1⟩
    · have h1' : (k == 1) = false := by simpa using h1
      have HX2 : Hid (dbS zs p = nxS zs (nxS zs p)) := by rw [Hid, HX.out, if_neg (by omega)]
      by_cases h5 : k < 5
      · have HV2 : Hid (dbV zs p = 60 + nxV zs (nxS zs p) 200) := by rw [Hid, HV.out, if_neg h0, if_neg h1, if_pos h5]
        have hb := nxV_in zs (nxS zs p) (n := 200) (by decide) (by decide)
        go_wp2_with fail
        refine (l1Next_x base g a c zs _ 200 (by decide) (by decide) _ hs1).mono ?_
        rintro e w2 ⟨rfl, hs2, hf2⟩
        have hf3 := hf1.trans hf2
        generalize nxV zs (nxS zs p) 200 = y at HV2 hb ⊢
        clear HV HX
        go_wp2
        exact bodyPost_ret (v := .int .i64 (60 + y)) (by simp [results, Try.results58, go_sem]) rfl ⟨by rw [HV2.out], by rw [HX2.out]; exact hs2, hf3⟩
      · have HV2 : Hid (dbV zs p = 10 + nxV zs (nxS zs p) 40) := by rw [Hid, HV.out, if_neg h0, if_neg h1, if_neg h5]
        have hb := nxV_in zs (nxS zs p) (n := 40) (by decide) (by decide)
        go_wp2_with fail
        refine (l1Next_x base g a c zs _ 40 (by decide) (by decide) _ hs1).mono ?_
        rintro e w2 ⟨rfl, hs2, hf2⟩
        have hf3 := hf1.trans hf2
        generalize nxV zs (nxS zs p) 40 = y at HV2 hb ⊢
        clear HV HX
        go_wp2
        exact bodyPost_ret (v := .int .i64 (10 + y)) (by simp [results, Try.results58, go_sem]) rfl ⟨by rw [HV2.out], by rw [HX2.out]; exact hs2, hf3⟩

/-- l1DrawBlockNo -/
def noV (zs : List Int) (p : Nat × Int) (B : Int) : Int := if nxV zs p 12 = 0 then B else if nxV zs p 12 = 1 then -1 else if nxV zs p 12 < 7 then nxV zs (nxS zs p) 4 else nxV zs (nxS zs p) B
set_option maxHeartbeats 1000000 in
theorem l1DrawBlockNo_x (base g : Nat) (a : Option Addr) (c : Nat) (zs : List Int) (p : Nat × Int) (B : Int) (hB : 0 < B) (hB2 : B ≤ 9223372036854775807) (w : World) (hs : SrcX base g a c zs p w) :
    Calls Try.prog 40 #[.pointer (some ⟨g, 0, none⟩), .int .i64 B] w fun e w' => e = .returned (.int .i64 (noV zs p B)) ∧ Frm (· = g) w w' := by
  have HV : Hid (noV zs p B = if nxV zs p 12 = 0 then B else if nxV zs p 12 = 1 then -1 else if nxV zs p 12 < 7 then nxV zs (nxS zs p) 4 else nxV zs (nxS zs p) B) := rfl
  go_enter Try.func40, Try.ntmps40
  go_wp2_with fail
  refine (l1Next_x base g a c zs p 12 (by decide) (by decide) _ hs).mono ?_
  rintro e w1 ⟨rfl, hs1, hf1⟩
  generalize nxV zs p 12 = k at HV ⊢
  by_cases h0 : k = 0
  · subst h0
    go_wp2
    exact bodyPost_ret (v := .int .i64 B) (by simp [results, Try.results40, go_sem]) rfl ⟨by rw [HV.out]; rfl, hf1⟩
  · have h0' : (k == 0) = false := by simpa using h0
    by_cases h1 : k = 1
    · subst h1
      go_wp2
      exact bodyPost_ret (v := .int .i64 (-1)) (by simp [results, Try.results40, go_sem]) rfl ⟨by rw [HV.out]; rfl, hf1⟩
    · have h1' : (k == 1) = false := by simpa using h1
      by_cases h5 : k < 7
      · have HV2 : Hid (noV zs p B = nxV zs (nxS zs p) 4) := by rw [Hid, HV.out, if_neg h0, if_neg h1, if_pos h5]
        go_wp2_with fail
        refine (l1Next_x base g a c zs _ 4 (by decide) (by decide) _ hs1).mono ?_
        rintro e w2 ⟨rfl, hs2, hf2⟩
        have hf3 := hf1.trans hf2
        generalize nxV zs (nxS zs p) 4 = y at HV2 ⊢
        clear HV
        go_wp2
        exact bodyPost_ret (v := .int .i64 y) (by simp [results, Try.results40, go_sem]) rfl ⟨by rw [HV2.out], hf3⟩
      · have HV2 : Hid (noV zs p B = nxV zs (nxS zs p) B) := by rw [Hid, HV.out, if_neg h0, if_neg h1, if_neg h5]
        go_wp2_with fail
        refine (l1Next_x base g a c zs _ B hB hB2 _ hs1).mono ?_
        rintro e w2 ⟨rfl, hs2, hf2⟩
        have hf3 := hf1.trans hf2
        generalize nxV zs (nxS zs p) B = y at HV2 ⊢
        clear HV
        go_wp2
        exact bodyPost_ret (v := .int .i64 y) (by simp [results, Try.results40, go_sem]) rfl ⟨by rw [HV2.out], hf3⟩
end Go.Proofs.Ytbadedhliplkeaa

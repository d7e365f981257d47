import Derived.Test.YtamblkibmlfklabDoorBytes
import Derived.Test.YtamblkibmlfklabDoorNums
import Derived.Deep.RegionHeld3
namespace Go.Proofs.YtamblkibmlfklabDoor
open Go.RowKit
set_option linter.unusedVariables false

/-- only blocks of S changed -/
structure Frm (S : Nat → Prop) (w w' : World) : Prop where
  os : w'.os = w.os
  tape : w'.tape = w.tape
  output : w'.output = w.output
  size : w.heap.size ≤ w'.heap.size
  block : ∀ k, k < w.heap.size → ¬ S k → w'.heap[k]? = w.heap[k]?

/-- block g holds a source over the bytes zs -/
structure Src (base g : Nat) (a : Option Addr) (c : Nat) (zs : List Int) (w : World) : Prop where
  code : Bts w (.slice a zs.length c) zs
  old : 0 < zs.length → ∀ b off, a = some ⟨b, off, none⟩ → b < base
  lo : base ≤ g
  len : zs.length ≤ 1048576
  cells : ∃ (pos : Nat) (s : Int), pos ≤ zs.length ∧ w.cell? ⟨g, 0, none⟩ = some (.slice a zs.length c) ∧ w.cell? ⟨g, 1, none⟩ = some (.int .i64 pos) ∧ w.cell? ⟨g, 2, none⟩ = some (.int .u64 s) ∧ w.frozen? ⟨g, 0, none⟩ = false ∧ w.frozen? ⟨g, 1, none⟩ = false ∧ w.frozen? ⟨g, 2, none⟩ = false

theorem set_ne (w : World) (g i j : Nat) (v : Value) (h : i ≠ j) : (w.setCell ⟨g, i, none⟩ v).cell? ⟨g, j, none⟩ = w.cell? ⟨g, j, none⟩ := World.cell?_setCell_other _ _ _ _ (by intro e; simp only [Addr.mk.injEq] at e; omega)
theorem set_far (w : World) (g b i j : Nat) (v : Value) (h : b ≠ g) : (w.setCell ⟨g, i, none⟩ v).cell? ⟨b, j, none⟩ = w.cell? ⟨b, j, none⟩ := World.cell?_setCell_other _ _ _ _ (by intro e; simp only [Addr.mk.injEq] at e; omega)

theorem Frm.refl (S : Nat → Prop) (w : World) : Frm S w w := ⟨rfl, rfl, rfl, Nat.le_refl _, fun _ _ _ => rfl⟩
theorem Frm.trans {S : Nat → Prop} {a b c : World} (h : Frm S a b) (k : Frm S b c) : Frm S a c :=
  ⟨k.os.trans h.os, k.tape.trans h.tape, k.output.trans h.output, Nat.le_trans h.size k.size, fun i hi hn => (k.block i (Nat.lt_of_lt_of_le hi h.size) hn).trans (h.block i hi hn)⟩
theorem Frm.mono {S T : Nat → Prop} {w w' : World} (h : Frm S w w') (k : ∀ b, b < w.heap.size → S b → T b) : Frm T w w' := ⟨h.os, h.tape, h.output, h.size, fun i hi hn => h.block i hi fun e => hn (k i hi e)⟩
theorem Frm.of_below {B : Nat} {w w' : World} (h : Below B w w') : Frm (fun b => B ≤ b) w w' := ⟨h.os, h.tape, h.output, h.size, fun i _ hn => h.block i (by omega)⟩
theorem Frm.below {S : Nat → Prop} {B : Nat} {w w' : World} (h : Frm S w w') (hB : B ≤ w.heap.size) (k : ∀ b, S b → B ≤ b) : Below B w w' := ⟨h.os, h.tape, h.output, h.size, fun i hi => h.block i (by omega) fun e => by have := k i e; omega⟩

theorem Src.heap {base g : Nat} {a : Option Addr} {c : Nat} {zs : List Int} {w w' : World} (h : Src base g a c zs w) (e : w'.heap = w.heap) : Src base g a c zs w' := by
  have e1 : ∀ p : Addr, w'.cell? p = w.cell? p := fun p => World.cell?_of_block (by rw [e])
  have e2 : ∀ p : Addr, w'.frozen? p = w.frozen? p := fun p => World.frozen?_of_block (by rw [e])
  exact ⟨h.code.kept fun _ _ _ => e1 _, h.old, h.lo, h.len, by simpa only [e1, e2] using h.cells⟩
theorem Src.lt {base g : Nat} {a : Option Addr} {c : Nat} {zs : List Int} {w : World} (h : Src base g a c zs w) : g < w.heap.size := by
  obtain ⟨_, _, _, c0, _⟩ := h.cells
  exact World.block_lt_of_cell? _ _ c0
/-- what leaves the source and what lay below base alone -/
theorem Src.frm {S : Nat → Prop} {base g : Nat} {a : Option Addr} {c : Nat} {zs : List Int} {w w' : World} (h : Src base g a c zs w) (k : Frm S w w') (hg : ¬ S g) (hb : ∀ b, S b → base ≤ b) : Src base g a c zs w' := by
  have hlt := h.lt
  have e1 : ∀ o, w'.cell? ⟨g, o, none⟩ = w.cell? ⟨g, o, none⟩ := fun o => World.cell?_of_block (k.block g hlt hg)
  have e2 : ∀ o, w'.frozen? ⟨g, o, none⟩ = w.frozen? ⟨g, o, none⟩ := fun o => World.frozen?_of_block (k.block g hlt hg)
  refine ⟨⟨h.code.small, ?_⟩, h.old, h.lo, h.len, by simpa only [e1, e2] using h.cells⟩
  obtain ⟨_, _, he, hc⟩ := h.code.shape
  refine ⟨_, _, he, fun hp => ?_⟩
  simp only [Value.slice.injEq, true_and] at he
  obtain ⟨rfl, rfl⟩ := he
  obtain ⟨b, off, rfl, hcell⟩ := hc hp
  refine ⟨b, off, rfl, fun i hi => (World.cell?_of_block (w := w) (k.block b (World.block_lt_of_cell? _ _ (hcell i hi)) fun e => ?_)).trans (hcell i hi)⟩
  have h1 := hb b e
  have h2 := h.old hp b off rfl
  omega
theorem Src.stored {base g : Nat} {a : Option Addr} {c : Nat} {zs : List Int} {w : World} (h : Src base g a c zs w) (s : Int) : Src base g a c zs (w.setCell ⟨g, 2, none⟩ (.int .u64 s)) ∧ Frm (· = g) w (w.setCell ⟨g, 2, none⟩ (.int .u64 s)) := by
  obtain ⟨pos, s0, hp, c0, c1, c2, f0, f1, f2⟩ := h.cells
  refine ⟨⟨⟨h.code.small, ?_⟩, h.old, h.lo, h.len, pos, s, hp, (set_ne _ _ _ _ _ (by decide)).trans c0, (set_ne _ _ _ _ _ (by decide)).trans c1, World.cell?_setCell_same _ _ _ c2, (World.frozen?_setCell _ _ _ _).trans f0, (World.frozen?_setCell _ _ _ _).trans f1, (World.frozen?_setCell _ _ _ _).trans f2⟩, rfl, rfl, rfl, by simp [World.setCell], fun k _ hn => Below.heap_setCell _ _ _ _ hn⟩
  obtain ⟨_, _, he, hc⟩ := h.code.shape
  refine ⟨_, _, he, fun hp => ?_⟩
  simp only [Value.slice.injEq, true_and] at he
  obtain ⟨rfl, rfl⟩ := he
  obtain ⟨b, off, rfl, hcell⟩ := hc hp
  exact ⟨b, off, rfl, fun i hi => (set_far _ _ _ _ _ _ (by have h1 := h.old hp b off rfl; have h2 := h.lo; omega)).trans (hcell i hi)⟩
theorem Src.moved {base g : Nat} {a : Option Addr} {c : Nat} {zs : List Int} {w : World} (h : Src base g a c zs w) (p : Nat) (hp : p ≤ zs.length) : Src base g a c zs (w.setCell ⟨g, 1, none⟩ (.int .i64 p)) ∧ Frm (· = g) w (w.setCell ⟨g, 1, none⟩ (.int .i64 p)) := by
  obtain ⟨pos, s0, _, c0, c1, c2, f0, f1, f2⟩ := h.cells
  refine ⟨⟨⟨h.code.small, ?_⟩, h.old, h.lo, h.len, p, s0, hp, (set_ne _ _ _ _ _ (by decide)).trans c0, World.cell?_setCell_same _ _ _ c1, (set_ne _ _ _ _ _ (by decide)).trans c2, (World.frozen?_setCell _ _ _ _).trans f0, (World.frozen?_setCell _ _ _ _).trans f1, (World.frozen?_setCell _ _ _ _).trans f2⟩, rfl, rfl, rfl, by simp [World.setCell], fun k _ hn => Below.heap_setCell _ _ _ _ hn⟩
  obtain ⟨_, _, he, hc⟩ := h.code.shape
  refine ⟨_, _, he, fun hp => ?_⟩
  simp only [Value.slice.injEq, true_and] at he
  obtain ⟨rfl, rfl⟩ := he
  obtain ⟨b, off, rfl, hcell⟩ := hc hp
  exact ⟨b, off, rfl, fun i hi => (set_far _ _ _ _ _ _ (by have h1 := h.old hp b off rfl; have h2 := h.lo; omega)).trans (hcell i hi)⟩

theorem u64_nonneg (x : Int) : 0 ≤ IntKind.u64.wrap x ∧ IntKind.u64.wrap x < 18446744073709551616 := by simp only [IntKind.wrap, IntKind.signed, IntKind.bits]; simp; omega
theorem tmod_in {x n : Int} (hx : 0 ≤ x) (hn : 0 < n) (hm : n ≤ 9223372036854775807) : 0 ≤ wrap64 (x.tmod n) ∧ wrap64 (x.tmod n) < n := by
  rw [Int.tmod_eq_emod_of_nonneg hx]
  have h1 := Int.emod_nonneg x (show n ≠ 0 by omega)
  have h2 := Int.emod_lt_of_pos x hn
  have hw : wrap64 (x % n) = x % n := by unfold wrap64; omega
  rw [hw]
  exact ⟨h1, h2⟩
theorem xor_nonneg {a b : Int} (h1 : 0 ≤ a) (h2 : a < 18446744073709551616) (h3 : 0 ≤ b) (h4 : b < 18446744073709551616) : 0 ≤ bits .xor .u64 a b := by
  rw [u64_xor a b h1 h2 h3 h4]; omega

set_option maxHeartbeats 1000000 in
theorem l1Next_any (base g : Nat) (a : Option Addr) (c : Nat) (zs : List Int) (n : Int) (hn : 0 < n) (hm : n ≤ 9223372036854775807) (w : World) (hs : Src base g a c zs w) :
    Calls Tryd.prog 30 #[.pointer (some ⟨g, 0, none⟩), .int .i64 n] w fun e w' => ∃ x : Int, e = .returned (.int .i64 x) ∧ 0 ≤ x ∧ x < n ∧ Src base g a c zs w' ∧ Frm (· = g) w w' := by
  have HS : Hid (Src base g a c zs w) := hs
  obtain ⟨pos, s, hp, c0, c1, c2, f0, f1, f2⟩ := hs.cells
  have hlen := hs.len
  have hn' : ¬ n ≤ 0 := by omega
  have hn0 : ¬ n = 0 := by omega
  have hnw : IntKind.u64.wrap n = n := by simp only [IntKind.wrap, IntKind.signed, IntKind.bits]; simp; omega
  have HT : Hid (∀ x : Int, 0 ≤ x → 0 ≤ wrap64 (x.tmod n) ∧ wrap64 (x.tmod n) < n) := fun x hx => tmod_in hx hn hm
  have K0 := fun v => (set_ne w g 2 0 v (by decide)).trans c0
  have K1 := fun v => (set_ne w g 2 1 v (by decide)).trans c1
  by_cases hlt : pos < zs.length
  · have hi : (pos : Int) < (zs.length : Int) := by omega
    obtain ⟨_, _, he, hc⟩ := hs.code.shape
    simp only [Value.slice.injEq, true_and] at he
    obtain ⟨rfl, rfl⟩ := he
    obtain ⟨b, off, rfl, hcell⟩ := hc (by omega)
    have hbg : b ≠ g := by have := hs.old (by omega) b off rfl; have := hs.lo; omega
    have g1 := hcell pos hlt
    have K2 := fun v => (set_far w g b 2 (off + pos) v hbg).trans g1
    generalize zs.getD pos 0 = z at g1 K2
    clear hc hcell hs
    go_enter Tryd.func30, Tryd.ntmps30
    go_wp2
    go_region_held3 (fun w' => w'.cell? ⟨g, 1, none⟩ = some (.int .i64 pos) ∧ w'.cell? ⟨g, 0, none⟩ = some (.slice (some ⟨b, off, none⟩) zs.length c)) (first | exact ⟨K1 _, K0 _⟩ | go_keep | assumption) (fail)
    go_wp2
    go_region_held3 (fun w' => w'.cell? ⟨g, 0, none⟩ = some (.slice (some ⟨b, off, none⟩) zs.length c) ∧ w'.cell? ⟨g, 1, none⟩ = some (.int .i64 pos) ∧ w'.cell? ⟨b, off + pos, none⟩ = some (.int .u8 z)) (first | exact ⟨K0 _, K1 _, K2 _⟩ | go_keep | assumption) (fail)
    go_wp2
    refine bodyPost_ret (by simp [results, Tryd.results30, go_sem]; rfl) rfl ?_
    have hx := xor_nonneg (a := IntKind.u64.wrap (IntKind.u64.wrap (s * 6364136223846793005) + 1442695040888963407) / 8589934592) (b := IntKind.u64.wrap z) (by have := u64_nonneg (IntKind.u64.wrap (s * 6364136223846793005) + 1442695040888963407); omega) (by have := u64_nonneg (IntKind.u64.wrap (s * 6364136223846793005) + 1442695040888963407); omega) (u64_nonneg _).1 (u64_nonneg _).2
    obtain ⟨q1, q2⟩ := HT.out _ hx
    obtain ⟨r1, r2⟩ := HS.out.stored (IntKind.u64.wrap (IntKind.u64.wrap (s * 6364136223846793005) + 1442695040888963407))
    obtain ⟨r3, r4⟩ := r1.moved (pos + 1) (by omega)
    exact ⟨_, rfl, q1, q2, r3.heap rfl, (r2.trans r4).trans ⟨rfl, rfl, rfl, Nat.le_refl _, fun _ _ _ => rfl⟩⟩
  · have hi : ¬ (pos : Int) < (zs.length : Int) := by omega
    clear hs
    go_enter Tryd.func30, Tryd.ntmps30
    go_wp2
    go_region_held3 (fun w' => w'.cell? ⟨g, 1, none⟩ = some (.int .i64 pos) ∧ w'.cell? ⟨g, 0, none⟩ = some (.slice a zs.length c)) (first | exact ⟨K1 _, K0 _⟩ | go_keep | assumption) (fail)
    go_wp2
    refine bodyPost_ret (by simp [results, Tryd.results30, go_sem]; rfl) rfl ?_
    obtain ⟨q1, q2⟩ := HT.out (IntKind.u64.wrap (IntKind.u64.wrap (s * 6364136223846793005) + 1442695040888963407) / 8589934592) (by have := u64_nonneg (IntKind.u64.wrap (s * 6364136223846793005) + 1442695040888963407); omega)
    obtain ⟨r1, r2⟩ := HS.out.stored (IntKind.u64.wrap (IntKind.u64.wrap (s * 6364136223846793005) + 1442695040888963407))
    exact ⟨_, rfl, q1, q2, r1.heap rfl, r2.trans ⟨rfl, rfl, rfl, Nat.le_refl _, fun _ _ _ => rfl⟩⟩
end Go.Proofs.YtamblkibmlfklabDoor

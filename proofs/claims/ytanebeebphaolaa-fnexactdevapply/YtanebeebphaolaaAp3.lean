import Derived.Test.YtanebeebphaolaaAp3a
import Derived.Deep.RegionLaw
namespace Go.Proofs.Ytanebeebphaolaa
open Go.RowKit
set_option linter.unusedVariables false

/-- spec.DevApply at work: d's box, the answer's, out's at block o; out's disk in block g from off on -/
structure Spw (S : Nat → Prop) (w W : World) (o g off : Nat) (B : Int) (u1 u2 : Value) (n uc : Nat) (c : Value) (z : List Int) (p : List (Int × List Int)) : Prop where
  bx : Box3 W w.heap.size (.int .i64 B) u1 u2 25
  yb : Box3 W (w.heap.size + 1) (.int .i64 0) (.slice none 0 0) (.slice none 0 0) 25
  zb : Box3 W o (.int .i64 B) (.slice (some ⟨g, off, none⟩) n uc) c 25
  disk : Dsk W g off z
  len : z.length = n
  cache : PRow S W c p
  fits : Fits n p
  gl : g < W.heap.size
  new : ∀ k, W.heap.size ≤ k → S k
  below : Below w.heap.size w W

/-- where they lie -/
structure Spo (S : Nat → Prop) (w : World) (o g : Nat) : Prop where
  po : w.heap.size + 2 ≤ o
  pg : w.heap.size + 2 ≤ g
  ne : o ≠ g
  sk : ∀ k, S k → w.heap.size + 2 ≤ k ∧ k ≠ g ∧ k ≠ o

theorem Spw.below' {S : Nat → Prop} {w W W' : World} {o g off : Nat} {B : Int} {u1 u2 : Value} {n uc : Nat} {c : Value} {z : List Int} {p : List (Int × List Int)} (h : Spw S w W o g off B u1 u2 n uc c z p) (k : Below W.heap.size W W') : Spw S w W' o g off B u1 u2 n uc c z p :=
  ⟨h.bx.below k, h.yb.below k, h.zb.below k, h.disk.block (k.block g h.gl), h.len, h.cache.below k, h.fits, Nat.lt_of_lt_of_le h.gl k.size, fun q hq => h.new q (Nat.le_trans k.size hq), h.below.trans (k.mono h.below.size)⟩

/-- the answer -/
theorem Spw.fin {S : Nat → Prop} {w W : World} {o g off : Nat} {B : Int} {u1 u2 : Value} {uc : Nat} {ca : Option Addr} {cc : Nat} {z : List Int} {p : List (Int × List Int)} {n : Nat} (h : Spw S w W o g off B u1 u2 n uc (.slice ca p.length cc) z p) (q : Spo S w o g) (x y v : Value) :
    DOwnX w.heap.size (((W.setCell ⟨w.heap.size + 1, 0, none⟩ x).setCell ⟨w.heap.size + 1, 1, none⟩ y).setCell ⟨w.heap.size + 1, 2, none⟩ v).heap.size (((W.setCell ⟨w.heap.size + 1, 0, none⟩ x).setCell ⟨w.heap.size + 1, 1, none⟩ y).setCell ⟨w.heap.size + 1, 2, none⟩ v) (.agg #[.int .i64 B, .slice (some ⟨g, off, none⟩) z.length uc, .slice ca p.length cc]) B z p ∧
      Below w.heap.size w (((W.setCell ⟨w.heap.size + 1, 0, none⟩ x).setCell ⟨w.heap.size + 1, 1, none⟩ y).setCell ⟨w.heap.size + 1, 2, none⟩ v) := by
  have h1 := q.pg
  exact res_endO h.below (h.disk.own h.gl) h.gl h.cache (fun k hk => by have := q.sk k hk; omega) (by omega) (by omega) (by omega) x y v

theorem Spw.put {S : Nat → Prop} {w W : World} {o g off : Nat} {B : Int} {u1 u2 : Value} {n uc : Nat} {c : Value} {z : List Int} {p : List (Int × List Int)} (h : Spw S w W o g off B u1 u2 n uc c z p) (hq : Spo S w o g) (j : Nat) (hj : j < n) (v : Int) (hv : 0 ≤ v ∧ v < 256) : Spw S w (W.setCell ⟨g, off + j, none⟩ (.int .u8 v)) o g off B u1 u2 n uc c (z.set j v) p := by
  have h1 := hq.po
  have h2 := hq.pg
  have h3 := hq.ne
  have hk : ∀ k, k ≠ g → (W.setCell ⟨g, off + j, none⟩ (.int .u8 v)).heap[k]? = W.heap[k]? := fun k hk => Below.heap_setCell _ _ _ _ hk
  exact ⟨(hk _ (by omega)).trans h.bx, (hk _ (by omega)).trans h.yb, (hk _ (by omega)).trans h.zb, h.disk.set j (by rw [h.len]; exact hj) v hv, by rw [List.length_set]; exact h.len, h.cache.kept (by simp) (fun b hb _ => hk b (hq.sk b hb).2.1), h.fits, by simpa using h.gl, fun k hk => h.new k (by simpa using hk), h.below.setCell (p := ⟨g, off + j, none⟩) (by show w.heap.size ≤ g; omega) _⟩

/-- out.Cache = nil -/
theorem Spw.nil {S : Nat → Prop} {w W : World} {o g off : Nat} {B : Int} {u1 u2 : Value} {n uc : Nat} {c : Value} {z : List Int} {p : List (Int × List Int)} (h : Spw S w W o g off B u1 u2 n uc c z p) (hq : Spo S w o g) : Spw S w (W.setCell ⟨o, 2, none⟩ (.slice none 0 0)) o g off B u1 u2 n uc (.slice none 0 0) z [] := by
  have h1 := hq.po
  have h2 := hq.pg
  have h3 := hq.ne
  have hk : ∀ k, k ≠ o → (W.setCell ⟨o, 2, none⟩ (.slice none 0 0)).heap[k]? = W.heap[k]? := fun k hk => Below.heap_setCell _ _ _ _ hk
  refine ⟨(hk _ (by omega)).trans h.bx, (hk _ (by omega)).trans h.yb, ?_, h.disk.block (hk _ (fun e => h3 e.symm)), h.len, PRow.nil _ _, fun i hi => by simp at hi, by simpa using h.gl, fun k hk => h.new k (by simpa using hk), h.below.setCell (p := ⟨o, 2, none⟩) (by show w.heap.size ≤ o; omega) _⟩
  have := heap_setCell_same W o 2 _ 25 (.slice none 0 0) h.zb
  simpa [Box3] using this

/-- element j of the cache -/
theorem Spw.el {S : Nat → Prop} {w W : World} {o g off : Nat} {B : Int} {u1 u2 : Value} {n uc : Nat} {ca : Option Addr} {cc : Nat} {z : List Int} {p : List (Int × List Int)} (h : Spw S w W o g off B u1 u2 n uc (.slice ca p.length cc) z p) (hq : Spo S w o g) (j : Nat) (hj : j < p.length) :
    ∃ (b boff q eb eo dc : Nat) (ds : List Int), ca = some ⟨b, boff, none⟩ ∧ p.getD j (0, []) = ((q : Int), ds) ∧ ds.length = 128 ∧ (q + 1) * 128 ≤ n ∧ W.cell? ⟨b, boff + j * 2, none⟩ = some (.int .i64 (q : Int)) ∧ W.cell? ⟨b, boff + j * 2 + 1, none⟩ = some (.slice (some ⟨eb, eo, none⟩) 128 dc) ∧ (∀ x, x < 128 → W.cell? ⟨eb, eo + x, none⟩ = some (.int .u8 (ds.getD x 0))) ∧ (∀ x, 0 ≤ ds.getD x 0 ∧ ds.getD x 0 < 256) ∧ b ≠ g ∧ eb ≠ g := by
  obtain ⟨_, _, he, hc⟩ := h.cache.own
  simp only [Value.slice.injEq, true_and] at he
  obtain ⟨rfl, rfl⟩ := he
  obtain ⟨b, boff, ha, h1, _, gg, hg, _⟩ := hc (by omega)
  obtain ⟨g1, _, _, da, dc, e1, e2, _, e4⟩ := hg j hj
  obtain ⟨f1, f2, f3⟩ := h.fits j hj
  obtain ⟨a', cap', hv', hx⟩ := e4.shape
  simp only [Value.slice.injEq, true_and] at hv'
  obtain ⟨rfl, rfl⟩ := hv'
  obtain ⟨eb, eo, hae, k1, k2, _, k4⟩ := hx (by omega)
  have hs := e4.small
  generalize p.getD j (0, []) = e at *
  obtain ⟨r, ds⟩ := e
  simp only at *
  refine ⟨b, boff, r.toNat, eb, eo, dc, ds, ha, by rw [Int.toNat_of_nonneg f1], f3, f2, by rw [Int.toNat_of_nonneg f1]; exact e1, by rw [hae, f3] at e2; exact e2, fun x hx => (k4 x (by omega)).1, hs, (hq.sk b h1).2.1, ?_⟩
  obtain rfl : eb = gg j := by omega
  exact (hq.sk _ g1).2.1

theorem spw_wrote {S : Nat → Prop} {w W3 w4 w5 : World} {o g off : Nat} {B : Int} {u1 u2 : Value} {n uc : Nat} {c v' : Value} {z : List Int} {p p' : List (Int × List Int)} (h : Spw S w W3 o g off B u1 u2 n uc c z p) (hq : Spo S w o g) (hP5 : Box3 w5 o (.int .i64 B) (.slice (some ⟨g, off, none⟩) n uc) c 25) (hR5 : PRow S w5 v' p') (hF5 : Frm S w4 w5) (hb : Below W3.drew.heap.size W3.drew w4) (hpS : ¬ S o) (hf : Fits n p') :
    Spw S w (w5.setCell ⟨o, 2, none⟩ v') o g off B u1 u2 n uc v' z p' := by
  obtain ⟨e1, e2, e3⟩ := write_end hP5 hR5 hF5 hb (Below.refl _ _) hpS
  have h1 := hq.po
  have h2 := hq.pg
  have h3 := hq.ne
  have hno : ∀ k, k = w.heap.size ∨ k = w.heap.size + 1 ∨ k = g → ¬ (S k ∨ k = o) := fun k hk e => by
    rcases e with e | e
    · have := hq.sk k e; omega
    · omega
  exact ⟨(e3.block _ h.bx.lt (hno _ (.inl rfl))).trans h.bx, (e3.block _ h.yb.lt (hno _ (.inr (.inl rfl)))).trans h.yb, e1, h.disk.block (e3.block _ h.gl (hno _ (.inr (.inr rfl)))), h.len, e2, hf, Nat.lt_of_lt_of_le h.gl e3.size, fun k hk => h.new k (Nat.le_trans e3.size hk), h.below.trans (e3.below h.below.size (fun k hk => by
    rcases hk with e | e
    · have := hq.sk k e; omega
    · omega))⟩

set_option maxRecDepth 100000 in
set_option maxHeartbeats 8000000 in
theorem specApply_yes (count : Int) (sb : Nat) (ss : List (Int × Int × List Int)) (B : Int) (da ca : Option Addr) (dc cc : Nat) (zs : List Int) (ps : List (Int × List Int)) (w : World) (h : DRead w (.agg #[.int .i64 B, .slice da zs.length dc, .slice ca ps.length cc]) B zs ps) (hok : dOK B zs ps = true) (hv : SRead w (.slice (some ⟨sb, 0, none⟩) ss.length ss.length) ss) (hs : ss.length ≤ 1048576) (hsd : ∀ i, (ss.getD i (0, 0, [])).2.2.length ≤ 1048576) :
    Calls Try.prog 33 #[.agg #[.int .i64 B, .slice da zs.length dc, .slice ca ps.length cc], .slice (some ⟨sb, 0, none⟩) ss.length ss.length, .int .i64 count] w fun e w' => ∃ xa xc ya yc, e = .returned (.tuple #[.agg #[.int .i64 B, .slice xa (apS B zs ps ss count).1.length xc, .slice ya (apS B zs ps ss count).2.1.length yc], .int .i64 (apS B zs ps ss count).2.2]) ∧ DOwnX w.heap.size w'.heap.size w' (.agg #[.int .i64 B, .slice xa (apS B zs ps ss count).1.length xc, .slice ya (apS B zs ps ss count).2.1.length yc]) B (apS B zs ps ss count).1 (apS B zs ps ss count).2.1 ∧ Below w.heap.size w w' := by
  obtain ⟨hB1, hB2, hzl, hpl, hel⟩ := dOK_out hok
  have hzl' : zs.length ≤ 1048576 := by omega
  have hz0 : 0 < zs.length := by omega
  have hel' : ∀ i, (ps.getD i (0, [])).2.length ≤ 1048576 := fun i => by
    by_cases hi : i < ps.length
    · have := of_decide_eq_true (hel i hi); omega
    · simp [hi]
  have hbel := fun o1 o2 => ((Below.refl w.heap.size w).alloc (Nat.le_refl _) o1).alloc (by simp) o2
  have hX := (Box3.made w (.int .i64 B) (.slice da zs.length dc) (.slice ca ps.length cc) 25 _ rfl).alloc (.cells #[.int .i64 0, .slice none 0 0, .slice none 0 0] 25)
  have hY := Box3.made (w.alloc (.cells #[.int .i64 B, .slice da zs.length dc, .slice ca ps.length cc] 25)) (.int .i64 0) (.slice none 0 0) (.slice none 0 0) 25 (w.heap.size + 1) (by simp)
  have hb0 := hbel (.cells #[.int .i64 B, .slice da zs.length dc, .slice ca ps.length cc] 25) (.cells #[.int .i64 0, .slice none 0 0, .slice none 0 0] 25)
  clear hbel
  go_enter Try.func33, Try.ntmps33
  go_wp2_with fail
  refine (l1Valid_any B _ zs ps _ (h.below hb0) hzl' (by omega) hel').mono ?_
  rintro e w1 ⟨rfl, hb1⟩
  have hX1 := hX.below hb1
  have hY1 := hY.below hb1
  have hs1 : w.heap.size + 1 + 1 ≤ w1.heap.size := by have := hb1.size; simpa using this
  have hbel1 := hb0.trans (hb1.mono hb0.size)
  obtain ⟨c0, c1, c2⟩ := hX1.cells
  clear hX hY hb1 hb0
  go_wp2_with fail
  refine (copyDevice_any B da ca dc cc zs ps _ (h.below hbel1) hzl' hpl hel').mono ?_
  rintro e w2 ⟨ua, uc, va, vc, g, rfl, hg0, hgl, hu, hR, hb2⟩
  have hX2 := hX1.below hb2
  have hY2 := hY1.below hb2
  have hbel2 := hbel1.trans (hb2.mono hbel1.size)
  have hs2 := hb2.size
  have hR2 : PRow (fun k => w1.heap.size ≤ k ∧ k ≠ g ∧ k ≠ w2.heap.size) w2 _ ps := hR.wider (fun k hk hl => by omega)
  clear c0 c1 c2 hX1 hY1 hb2 hbel1 hR
  have hb3 := belowA w2 (.cells #[.int .i64 B, .slice ua zs.length uc, .slice va ps.length vc] 25)
  have hP3 := Box3.made w2 (.int .i64 B) (.slice ua zs.length uc) (.slice va ps.length vc) 25 _ rfl
  have hR3 := hR2.below hb3
  have hu3 := hu.below hb3
  have hX3 := hX2.below hb3
  have hY3 := hY2.below hb3
  have hbel3 := hbel2.trans (hb3.mono hbel2.size)
  clear hu hR2 hY2 hX2 hb3 hbel2
  obtain ⟨x0, x1, x2⟩ := hX3.cells
  obtain ⟨y0, y1, y2⟩ := hY3.cells
  obtain ⟨p0, p1, p2⟩ := hP3.cells
  have hfr := hY3.free
  obtain ⟨off, rfl, hD3⟩ := Dsk.of_own hu3 hz0
  have hSp : Spo (fun k => w1.heap.size ≤ k ∧ k ≠ g ∧ k ≠ w2.heap.size) w w2.heap.size g := ⟨by omega, by omega, by omega, fun k hk => by omega⟩
  have hW3 : Spw (fun k => w1.heap.size ≤ k ∧ k ≠ g ∧ k ≠ w2.heap.size) w _ w2.heap.size g off B (.slice da zs.length dc) (.slice ca ps.length cc) zs.length uc (.slice va ps.length vc) zs ps := ⟨hX3, hY3, hP3, hD3, rfl, hR3, fits_of_ok hok, by simp; omega, fun k hk => by simp at hk; omega, hbel3⟩
  clear hX3 hY3 hP3 hD3 hR3 hu3 x0 x1 x2 y0 y1 y2 p0 p1 p2 hfr hbel3
  by_cases hn : ss.length > 4096
  · have hn' : (4096 : Int) < (ss.length : Int) := by omega
    have HE3 : Hid (apS B zs ps ss count = (zs, ps, 4)) := by unfold apS; rw [if_pos hn]; rfl
    obtain ⟨p0, p1, p2⟩ := hW3.zb.cells
    obtain ⟨y0, y1, y2⟩ := hW3.yb.cells
    have hfr := hW3.yb.free
    have hend := hW3.fin hSp
    clear hW3 hv
    go_wp2
    refine bodyPost_ret (v := .tuple #[.agg #[.int .i64 B, .slice (some ⟨g, off, none⟩) zs.length uc, .slice va ps.length vc], .int .i64 4]) (by simp [results, Try.results33, go_sem, y0, y1, y2]) rfl ?_
    rw [HE3.out]
    exact ⟨_, _, _, _, rfl, (hend _ _ _).1, (hend _ _ _).2⟩
  · have hn' : ¬ (4096 : Int) < (ss.length : Int) := by omega
    have hn4 : ss.length ≤ 4096 := by omega
    obtain ⟨m, hmm⟩ : ∃ m, m = upTo count ss.length := ⟨_, rfl⟩
    have HE : Hid (apS B zs ps ss count = runS B zs ps (ss.take m)) := by unfold apS; rw [if_neg hn, hmm]; rfl
    have hmn : m ≤ ss.length := by rw [hmm]; exact upTo_le _ _
    have hmc : ∀ k : Nat, k < m ↔ k < ss.length ∧ (k : Int) < count := fun k => by rw [hmm]; unfold upTo; omega
    clear hmm hn
    go_wp2
    clear hn'
    go_loopw [9, 10, 11, 12, 13] (fun i _ _ _ _ wr => ∃ (k : Nat) (z' : List Int) (p' : List (Int × List Int)) (c : Value), k ≤ m ∧ i = .int .i64 k ∧ Spw (fun k => w1.heap.size ≤ k ∧ k ≠ g ∧ k ≠ w2.heap.size) w wr w2.heap.size g off B (.slice da zs.length dc) (.slice ca ps.length cc) zs.length uc c z' p' ∧ p'.length ≤ 2048 ∧ runS B zs ps (ss.take m) = runS B z' p' ((ss.take m).drop k)) (fun i _ _ _ _ _ => m - (intOf i).toNat)
    case atStart => exact ⟨0, zs, ps, _, Nat.zero_le _, rfl, hW3, hpl, rfl⟩
    case round =>
      obtain ⟨k, z', p', c, hk, rfl, hW, hpp, hrun⟩ := hrel
      clear hW3
      by_cases hlt : k < m
      · have hkc := ((hmc k).1 hlt).2
        have hki : (k : Int) < (ss.length : Int) := by omega
        obtain ⟨_, _, he, hvc⟩ := hv
        simp only [Value.slice.injEq, true_and] at he
        obtain ⟨rfl, rfl⟩ := he
        obtain ⟨b, boff, he, hcell⟩ := hvc (by omega)
        simp only [Option.some.injEq, Addr.mk.injEq, and_true] at he
        obtain ⟨rfl, rfl⟩ := he
        obtain ⟨ea, ec, g1, g2, g3, g4⟩ := hcell k (by omega)
        have hbw : sb < w.heap.size := World.block_lt_of_cell? _ _ g1
        rw [← hW.below.cell (p := ⟨sb, 0 + k * 3, none⟩) hbw] at g1
        rw [← hW.below.cell (p := ⟨sb, 0 + k * 3 + 1, none⟩) hbw] at g2
        rw [← hW.below.cell (p := ⟨sb, 0 + k * 3 + 2, none⟩) hbw] at g3
        simp only [Nat.zero_add] at g1 g2 g3
        have g5 := g4.below hW.below
        have hdk := hsd k
        have hdr := drop_el ss m k hlt hmn
        clear hcell g4 hvc
        generalize ss.getD k (0, 0, []) = el at g1 g2 g3 g5 hdk hdr
        obtain ⟨kd, q, ds⟩ := el
        simp only at g1 g2 g3 g5 hdk hdr
        have hbA := belowA wr (.cells #[.int .i64 kd, .int .i64 q, .slice ea ds.length ec] 46)
        have hE := Box3.made wr (.int .i64 kd) (.int .i64 q) (.slice ea ds.length ec) 46 _ rfl
        have hWA := hW.below' hbA
        have hvA := g5.below hbA
        rw [hdr] at hrun
        simp only [runS] at hrun
        have HR : Hid (runS B zs ps (ss.take m) = if stC B p'.length (kd, q, ds) = 0 then runS B (stZ z' p' (kd, q, ds)) (stP B p' (kd, q, ds)) ((ss.take m).drop (k + 1)) else (z', p', stC B p'.length (kd, q, ds))) := hrun
        have hpn := stP_len (B := B) (s := (kd, q, ds)) hpp
        obtain ⟨ca3, cc3, rfl⟩ := hW.cache.form
        obtain ⟨x0, x1, x2⟩ := hWA.bx.cells
        obtain ⟨y0, y1, y2⟩ := hWA.yb.cells
        obtain ⟨p0, p1, p2⟩ := hWA.zb.cells
        obtain ⟨e0, e1, e2⟩ := hE.cells
        have hfr := hWA.yb.free
        have hzlt := hWA.zb.lt
        clear hrun hdr hbA hW g5
        by_cases h2 : kd = 2
        · subst h2
          have hc : stC B p'.length (2, q, ds) = 0 := by unfold stC; rw [if_neg (show ¬ (2 : Int) = 1 by decide), if_pos rfl]
          have hz5 : stZ z' p' (2, q, ds) = settle z' p' := by unfold stZ; rw [if_pos rfl]
          have hp5 : stP B p' (2, q, ds) = [] := by unfold stP; rw [if_neg (show ¬ (2 : Int) = 1 by decide), if_pos rfl]
          have HR3 : Hid (runS B zs ps (ss.take m) = runS B (settle z' p') [] ((ss.take m).drop (k + 1))) := by
            have := HR.out
            rw [if_pos hc, hz5, hp5] at this
            exact this
          clear hc hz5 hp5 HR hpn
          go_wp2
          clear g1 g2 g3 e0 e1 e2 x0 x1 x2 y0 y1 y2 p0 p1 p2 hfr hzlt hvA
          obtain ⟨W3, hW3⟩ : ∃ W3, W3 = wr.alloc (.cells #[.int .i64 2, .int .i64 q, .slice ea ds.length ec] 46) := ⟨_, rfl⟩
          rw [← hW3] at hWA
          rw [← hW3]
          clear hW3 hE
          go_loopw [11, 12, 13] (fun kk _ _ wx => ∃ j : Nat, j ≤ p'.length ∧ kk = .int .i64 j ∧ Spw (fun k => w1.heap.size ≤ k ∧ k ≠ g ∧ k ≠ w2.heap.size) w wx w2.heap.size g off B (.slice da zs.length dc) (.slice ca ps.length cc) zs.length uc (.slice ca3 p'.length cc3) (settle z' (p'.take j)) p') (fun kk _ _ _ => p'.length - (intOf kk).toNat)
          case atStart => exact ⟨0, Nat.zero_le _, rfl, by rw [List.take_zero]; exact hWA⟩
          case round =>
            obtain ⟨j, hj, rfl, hW4⟩ := hrel
            clear hWA
            obtain ⟨p0, p1, p2⟩ := hW4.zb.cells
            by_cases hjl : j < p'.length
            · obtain ⟨b, boff, q', eb, eo, dc', ds', rfl, hpj, hd128, hq128, c0, c1, c2, hsm, hbg, hebg⟩ := hW4.el hSp j hjl
              have hji : (j : Int) < (p'.length : Int) := by omega
              have hqb : (q' : Int) * 128 ≤ 65536 := by omega
              have HPJ : Hid (p'.getD j (0, []) = ((q' : Int), ds')) := hpj
              have HST : Hid (settle z' (p'.take (j + 1)) = patch (settle z' (p'.take j)) q' ds') := by
                have := settle_take z' p' j hjl
                rw [hpj] at this
                simp only [Int.toNat_natCast] at this
                exact this
              clear hpj c2
              go_wp2
              go_loopw [13] (fun xx wx => ∃ x : Nat, x ≤ 128 ∧ xx = .int .i64 x ∧ Spw (fun k => w1.heap.size ≤ k ∧ k ≠ g ∧ k ≠ w2.heap.size) w wx w2.heap.size g off B (.slice da zs.length dc) (.slice ca ps.length cc) zs.length uc (.slice (some ⟨b, boff, none⟩) p'.length cc3) (pt (settle z' (p'.take j)) q' ds' x) p') (fun xx _ => 128 - (intOf xx).toNat)
              case atStart => exact ⟨0, Nat.zero_le _, rfl, hW4⟩
              case round =>
                obtain ⟨x, hx, rfl, hW5⟩ := hrel
                clear hW4 p0 p1 p2 c0 c1
                by_cases hxl : x < 128
                · obtain ⟨b', boff', q2, eb2, eo2, dc2, ds2, he, hpj2, _, _, c0, c1, c2, _, hbg2, hebg2⟩ := hW5.el hSp j hjl
                  simp only [Option.some.injEq, Addr.mk.injEq, and_true] at he
                  obtain ⟨rfl, rfl⟩ := he
                  rw [HPJ.out] at hpj2
                  simp only [Prod.mk.injEq] at hpj2
                  obtain ⟨-, rfl⟩ := hpj2
                  obtain ⟨p0, p1, p2⟩ := hW5.zb.cells
                  have c3 := c2 x hxl
                  have hne := hSp.ne
                  have hjx : q' * 128 + x < zs.length := by omega
                  have hdc := hW5.disk.cell (q' * 128 + x) (by rw [hW5.len]; exact hjx)
                  obtain ⟨d1, d2⟩ := hdc
                  have hnext := hW5.put hSp (q' * 128 + x) hjx (ds'.getD x 0) (hsm x)
                  have hx1 : (x : Int) < 128 := by omega
                  have hx0 : (0 : Int) ≤ (x : Int) := by omega
                  obtain ⟨bv, hbv⟩ : ∃ bv, ds'.getD x 0 = bv := ⟨_, rfl⟩
                  have HBV : Hid (ds'.getD x 0 = bv) := hbv
                  rw [hbv] at c3 hnext
                  obtain ⟨y, hy⟩ : ∃ y, q' * 128 + x = y := ⟨_, rfl⟩
                  have HY : Hid (q' * 128 + x = y) := hy
                  rw [hy] at hnext d1 d2
                  have hi1 : (y : Int) < (zs.length : Int) := by omega
                  have hi0 : (0 : Int) ≤ (y : Int) := by omega
                  have hiw : IntKind.i64.wrap ((q' : Int) * 128 + (x : Int)) = (y : Int) := by rw [← hy]; exact (IntWalk.i64_in _ ⟨by omega, by omega⟩).trans (by omega)
                  clear hbv hy hjx
                  have hq0 : wr.drew.cell? ⟨w2.heap.size, 1, none⟩ = some (.slice (some ⟨g, off, none⟩) zs.length uc) ∧ wr.drew.cell? ⟨w2.heap.size, 2, none⟩ = some (.slice (some ⟨b, boff, none⟩) p'.length cc3) ∧ wr.drew.cell? ⟨b, boff + j * 2 + 1, none⟩ = some (.slice (some ⟨eb2, eo2, none⟩) 128 dc2) ∧ wr.drew.cell? ⟨eb2, eo2 + x, none⟩ = some (.int .u8 bv) := ⟨p1, p2, c1, c3⟩
                  have HNE : ∀ p : Addr, p = ⟨w2.heap.size, 1, none⟩ ∨ p = ⟨w2.heap.size, 2, none⟩ ∨ p = ⟨b, boff + j * 2 + 1, none⟩ ∨ p = ⟨eb2, eo2 + x, none⟩ → p.block ≠ g := by
                    rintro p (rfl | rfl | rfl | rfl)
                    · exact hne
                    · exact hne
                    · exact hbg
                    · exact hebg2
                  clear c2 hW5 hzl
                  go_wp2_with fail
                  go_region_held3 (fun w' => w'.cell? ⟨w2.heap.size, 1, none⟩ = some (.slice (some ⟨g, off, none⟩) zs.length uc) ∧ w'.cell? ⟨w2.heap.size, 2, none⟩ = some (.slice (some ⟨b, boff, none⟩) p'.length cc3) ∧ w'.cell? ⟨b, boff + j * 2 + 1, none⟩ = some (.slice (some ⟨eb2, eo2, none⟩) 128 dc2) ∧ w'.cell? ⟨eb2, eo2 + x, none⟩ = some (.int .u8 bv)) (first | assumption | exact cells4 hq0 (fun p hp => Below.heap_setCell _ _ _ _ (HNE p hp))) (fail)
                  clear hq0 d1 d2 p0 p1 p2 c0 c1 c3 HNE
                  go_wp2
                  go_roundw
                  case rel => exact ⟨x + 1, by omega, by go_num, by unfold pt; rw [HBV.out, HY.out]; exact hnext.below' (Below.refl _ _).drew⟩
                  case measure => simp [intOf]; omega
                · obtain rfl : x = 128 := by omega
                  have hn1 : Spw (fun k => w1.heap.size ≤ k ∧ k ≠ g ∧ k ≠ w2.heap.size) w wr w2.heap.size g off B (.slice da zs.length dc) (.slice ca ps.length cc) zs.length uc (.slice (some ⟨b, boff, none⟩) p'.length cc3) (settle z' (p'.take (j + 1))) p' := by
                    have hl := hW5.len
                    rw [pt_length] at hl
                    rw [HST.out, ← pt_all _ _ _ hd128 (by rw [hl]; exact hq128)]
                    exact hW5
                  clear hW5
                  go_wp2
                  go_roundw
                  case rel => exact ⟨j + 1, by omega, by go_num, hn1⟩
                  case measure => simp [intOf]; omega
            · obtain rfl : j = p'.length := by omega
              rw [List.take_length] at hW4
              have hWn := hW4.nil hSp
              have hfo := hW4.zb.free
              clear hW4
              go_wp2
              go_roundw
              case rel => exact ⟨k + 1, _, _, _, by omega, by go_num, hWn, by simp, HR3.out⟩
              case measure => simp [intOf]; omega
        · by_cases h1 : kd = 1
          · subst h1
            have hend := hWA.fin hSp
            have HL : Hid (z'.length = zs.length) := hWA.len
            by_cases h3 : q < 0
            ·
              have hw : wC B p'.length q ds.length = 2 := by unfold wC; rw [inB_false (by omega)]; rfl
              have hc : stC B p'.length (1, q, ds) = 2 := by unfold stC; rw [if_pos rfl]; exact hw
              have HE3 : Hid (apS B zs ps ss count = (z', p', 2)) := by
                have := HE.out
                rw [HR.out, hc, if_neg (by decide)] at this
                exact this
              clear hWA hE hvA hc hw
              go_wp2
              refine bodyPost_ret (v := .tuple #[.agg #[.int .i64 B, .slice (some ⟨g, off, none⟩) zs.length uc, .slice ca3 p'.length cc3], .int .i64 2]) (by simp [results, Try.results33, go_sem, y0, y1, y2]) rfl ?_
              rw [HE3.out]
              exact ⟨some ⟨g, off, none⟩, uc, ca3, cc3, by simp only [HL.out], (hend _ _ _).1, (hend _ _ _).2⟩
            · by_cases h4 : B ≤ q
              ·
                have hw : wC B p'.length q ds.length = 2 := by unfold wC; rw [inB_false (by omega)]; rfl
                have hc : stC B p'.length (1, q, ds) = 2 := by unfold stC; rw [if_pos rfl]; exact hw
                have HE3 : Hid (apS B zs ps ss count = (z', p', 2)) := by
                  have := HE.out
                  rw [HR.out, hc, if_neg (by decide)] at this
                  exact this
                clear hWA hE hvA hc hw
                go_wp2
                refine bodyPost_ret (v := .tuple #[.agg #[.int .i64 B, .slice (some ⟨g, off, none⟩) zs.length uc, .slice ca3 p'.length cc3], .int .i64 2]) (by simp [results, Try.results33, go_sem, y0, y1, y2]) rfl ?_
                rw [HE3.out]
                exact ⟨some ⟨g, off, none⟩, uc, ca3, cc3, by simp only [HL.out], (hend _ _ _).1, (hend _ _ _).2⟩
              · have hin : inB q 0 (B - 1) = true := inB_true (by omega)
                have h4' : q < B := by omega
                by_cases h5 : ds.length = 128
                · by_cases h6 : p'.length < 2048
                  · have hw : wC B p'.length q ds.length = 0 := wC_yes.2 ⟨hin, h5, h6⟩
                    have hc : stC B p'.length (1, q, ds) = 0 := by unfold stC; rw [if_pos rfl]; exact hw
                    have hz5 : stZ z' p' (1, q, ds) = z' := by unfold stZ; rw [if_neg (show ¬ (1 : Int) = 2 by decide)]
                    have hp5 : stP B p' (1, q, ds) = p' ++ [(q, ds)] := by unfold stP; rw [if_pos rfl]; unfold wP; rw [if_pos hw]
                    have HR3 : Hid (runS B zs ps (ss.take m) = runS B z' (p' ++ [(q, ds)]) ((ss.take m).drop (k + 1))) := by
                      have := HR.out
                      rw [if_pos hc, hz5, hp5] at this
                      exact this
                    have h5' : (ds.length : Int) = 128 := by omega
                    have h6' : (p'.length : Int) < 2048 := by omega
                    have HD : Hid (ds.length = 128) := h5
                    have HIN : Hid (inB q 0 (B - 1) = true) := hin
                    have hpl2 : p'.length < 1048576 := by omega
                    clear hc hin h5 hend hw hz5 hp5 hpn HR
                    go_wp2_with fail
                    clear h5' h3 h4 h4'
                    obtain ⟨W3, hW3⟩ : ∃ W3, W3 = wr.alloc (.cells #[.int .i64 1, .int .i64 q, .slice ea ds.length ec] 46) := ⟨_, rfl⟩
                    rw [← hW3] at hWA hE hvA x0 x1 x2 y0 y1 y2 p0 p1 p2 e0 e1 e2 hzlt
                    rw [← hW3]
                    clear hW3
                    have hS3 : ∀ k, W3.drew.heap.size ≤ k → w1.heap.size ≤ k ∧ k ≠ g ∧ k ≠ w2.heap.size := fun k hk => hWA.new k hk
                    have hpS : ¬ (w1.heap.size ≤ w2.heap.size ∧ w2.heap.size ≠ g ∧ w2.heap.size ≠ w2.heap.size) := by omega
                    have hP3' : Box3 W3.drew w2.heap.size (.int .i64 B) (.slice (some ⟨g, off, none⟩) zs.length uc) (.slice ca3 p'.length cc3) 25 := hWA.zb
                    have hR3' : PRow (fun k => w1.heap.size ≤ k ∧ k ≠ g ∧ k ≠ w2.heap.size) W3.drew (.slice ca3 p'.length cc3) p' := hWA.cache.below (Below.refl _ _).drew
                    have hE' : Box3 W3.drew wr.heap.size (.int .i64 1) (.int .i64 q) (.slice ea ds.length ec) 46 := hE
                    have hb128 : (zs.length : Int) = B * 128 := hzl
                    clear x0 x1 x2 y0 y1 y2 hfr
                    go_region_law (first | (refine step_appendR (by rfl) _ _ (by rfl) q ds rfl hR3' k4 k1 k2 k3 hS3 (by rfl) ⟨_, by rfl, by rfl⟩ hpl2 ?_; intro v' w5 hR5 hF5; obtain ⟨va5, vn5, rfl⟩ := hR5.form_snoc; have hP5 : Box3 w5 w2.heap.size (.int .i64 B) (.slice (some ⟨g, off, none⟩) zs.length uc) (.slice ca3 p'.length cc3) 25 := (hF5.block _ hP4.lt hpS).trans hP4; obtain ⟨r0, r1, r2⟩ := hP5.cells; have hfr5 := hP5.free) | (go_simp; go_at_call 49; refine (l1Copy_any _ ds _ ?_ hdk).mono ?_; exact hvA.below (Below.refl _ _).drew; rintro e w4 ⟨na, nc, gn, rfl, k1, k2, k3, k4⟩; have hP4 := Box3.below hP3' k4; have hpl4 := hP4.lt; obtain ⟨t0, t1, t2⟩ := hP4.cells; have hE4 := Box3.below hE' k4; have hel4 := hE4.lt; obtain ⟨s0, s1, s2⟩ := hE4.cells))
                    all_goals
                      have hst := spw_wrote hWA hSp hP5 hR5 hF5 k4 hpS (fits_snoc hWA.fits hb128 HIN.out HD.out)
                      clear hP5 hR5 hF5 k1 k2 k3 k4 hP4 hP3' hR3' hE' hE4 s0 s1 s2 t0 t1 t2 r0 r1 r2 hfr5 hWA hE hvA p0 p1 p2 e0 e1 e2
                      go_wp2
                      go_roundw
                      case rel => exact ⟨k + 1, z', _, _, by omega, by go_num, hst, by simp; omega, HR3.out⟩
                      case measure => simp [intOf]; omega
                  ·
                    have hw : wC B p'.length q ds.length = 4 := by unfold wC; rw [if_pos hin, if_pos h5, if_neg h6]
                    have hc : stC B p'.length (1, q, ds) = 4 := by unfold stC; rw [if_pos rfl]; exact hw
                    have HE3 : Hid (apS B zs ps ss count = (z', p', 4)) := by
                      have := HE.out
                      rw [HR.out, hc, if_neg (by decide)] at this
                      exact this
                    have h5' : (ds.length : Int) = 128 := by omega
                    have h6' : ¬ (p'.length : Int) < 2048 := by omega
                    clear hin h5
                    clear hWA hE hvA hc hw
                    go_wp2
                    refine bodyPost_ret (v := .tuple #[.agg #[.int .i64 B, .slice (some ⟨g, off, none⟩) zs.length uc, .slice ca3 p'.length cc3], .int .i64 4]) (by simp [results, Try.results33, go_sem, y0, y1, y2]) rfl ?_
                    rw [HE3.out]
                    exact ⟨some ⟨g, off, none⟩, uc, ca3, cc3, by simp only [HL.out], (hend _ _ _).1, (hend _ _ _).2⟩
                ·
                  have hw : wC B p'.length q ds.length = 3 := by unfold wC; rw [if_pos hin, if_neg h5]
                  have hc : stC B p'.length (1, q, ds) = 3 := by unfold stC; rw [if_pos rfl]; exact hw
                  have HE3 : Hid (apS B zs ps ss count = (z', p', 3)) := by
                    have := HE.out
                    rw [HR.out, hc, if_neg (by decide)] at this
                    exact this
                  have h5' : ¬ (ds.length : Int) = 128 := by omega
                  have h5n : ((ds.length : Int) != 128) = true := by simp [h5']
                  clear hin
                  clear hWA hE hvA hc hw
                  go_wp2
                  refine bodyPost_ret (v := .tuple #[.agg #[.int .i64 B, .slice (some ⟨g, off, none⟩) zs.length uc, .slice ca3 p'.length cc3], .int .i64 3]) (by simp [results, Try.results33, go_sem, y0, y1, y2]) rfl ?_
                  rw [HE3.out]
                  exact ⟨some ⟨g, off, none⟩, uc, ca3, cc3, by simp only [HL.out], (hend _ _ _).1, (hend _ _ _).2⟩
          · have hc : stC B p'.length (kd, q, ds) = 5 := by unfold stC; rw [if_neg h1, if_neg h2]
            have HE3 : Hid (apS B zs ps ss count = (z', p', 5)) := by
              have := HE.out
              rw [HR.out, hc, if_neg (by decide)] at this
              exact this
            have hend := hWA.fin hSp
            have HL : Hid (z'.length = zs.length) := hWA.len
            clear hWA hE hvA hc
            go_wp2
            refine bodyPost_ret (v := .tuple #[.agg #[.int .i64 B, .slice (some ⟨g, off, none⟩) zs.length uc, .slice ca3 p'.length cc3], .int .i64 5]) (by simp [results, Try.results33, go_sem, y0, y1, y2]) rfl ?_
            rw [HE3.out]
            exact ⟨some ⟨g, off, none⟩, uc, ca3, cc3, by simp only [HL.out], (hend _ _ _).1, (hend _ _ _).2⟩
      · obtain rfl : k = m := by omega
        have HE3 : Hid (apS B zs ps ss count = (z', p', 0)) := by
          have := HE.out
          rw [hrun, List.drop_eq_nil_of_le (by simp; omega)] at this
          exact this
        obtain ⟨ca3, cc3, rfl⟩ := hW.cache.form
        have hend := hW.fin hSp
        have HL : Hid (z'.length = zs.length) := hW.len
        obtain ⟨y0, y1, y2⟩ := hW.yb.cells
        obtain ⟨p0, p1, p2⟩ := hW.zb.cells
        have hfr := hW.yb.free
        have hno : ¬ (k < ss.length ∧ (k : Int) < count) := fun e => hlt ((hmc k).2 e)
        clear hW hrun hmc hv
        by_cases hkn : k < ss.length
        · have hk1 : (k : Int) < (ss.length : Int) := by omega
          have hk2 : ¬ (k : Int) < count := fun e => hno ⟨hkn, e⟩
          clear hno
          go_wp2
          refine bodyPost_ret (v := .tuple #[.agg #[.int .i64 B, .slice (some ⟨g, off, none⟩) zs.length uc, .slice ca3 p'.length cc3], .int .i64 0]) (by simp [results, Try.results33, go_sem, y0, y1, y2]) rfl ?_
          rw [HE3.out]
          exact ⟨some ⟨g, off, none⟩, uc, ca3, cc3, by simp only [HL.out], (hend _ _ _).1, (hend _ _ _).2⟩
        · have hk1 : ¬ (k : Int) < (ss.length : Int) := by omega
          clear hno
          go_wp2
          refine bodyPost_ret (v := .tuple #[.agg #[.int .i64 B, .slice (some ⟨g, off, none⟩) zs.length uc, .slice ca3 p'.length cc3], .int .i64 0]) (by simp [results, Try.results33, go_sem, y0, y1, y2]) rfl ?_
          rw [HE3.out]
          exact ⟨some ⟨g, off, none⟩, uc, ca3, cc3, by simp only [HL.out], (hend _ _ _).1, (hend _ _ _).2⟩
end Go.Proofs.Ytanebeebphaolaa

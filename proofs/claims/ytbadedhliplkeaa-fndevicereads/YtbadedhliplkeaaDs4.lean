import Derived.Test.YtbadedhliplkeaaDs3
import Derived.Test.YtbadedhliplkeaaLawNew
import Derived.Test.YtbadedhliplkeaaWr5
namespace Go.Proofs.Ytbadedhliplkeaa
open Go.RowKit
set_option linter.unusedVariables false

theorem DrB.out {base g : Nat} {a : Option Addr} {c : Nat} {zs : List Int} {w : World} {u : Value} {ys : List Int} {p : Nat × Int} {wr : World} (h : DrB base g a c zs w u ys p wr) (hg : g < w.heap.size) : ∃ b cap, u = .slice (some ⟨b, 0, none⟩) ys.length cap ∧ ys.length ≤ cap ∧ w.heap.size ≤ b ∧ b < wr.heap.size ∧ Own8 b (b + 1) wr u ys ∧ SrcX base g a c zs p wr ∧ Frm (· = g) w wr := by
  obtain ⟨b, cap, hu, hb, hbl, hcap, hO, _⟩ := h.row.own h.num
  exact ⟨b, cap, hu, hcap, hb, hbl, hO, h.src, h.frm.mono fun q hq e => by omega⟩

theorem Row8.capLe {base : Nat} {w : World} {a : Option Addr} {n c : Nat} {zs : List Int} (h : Row8 base w (.slice a n c) zs) : zs.length ≤ c := by
  rcases h.2 with ⟨hv, hn⟩ | ⟨g, cap, cur, hv, _, _, hnc, _⟩
  · omega
  · simp only [Value.slice.injEq] at hv
    omega
set_option maxHeartbeats 1000000 in
theorem specNew_cap (B : Int) (v : Value) (zs : List Int) (w : World) (hB : 8 ≤ B ∧ B ≤ 512) (hv : Bts w v zs) (hn : zs.length ≤ 281474976710656) :
    Calls Try.prog 9 #[.int .i64 B, v] w fun e w' => ∃ ua uc, e = .returned (.tuple #[.agg #[.int .i64 B, .slice ua (filled zs (B * 128).toNat).length uc, .slice none 0 0], .int .i64 0]) ∧ (filled zs (B * 128).toNat).length ≤ uc ∧ Own8 w.heap.size w'.heap.size w' (.slice ua (filled zs (B * 128).toNat).length uc) (filled zs (B * 128).toNat) ∧ Below w.heap.size w w' := by
  have hb := inB_true hB
  obtain ⟨n, rfl⟩ := Int.eq_ofNat_of_zero_le (show 0 ≤ B by omega)
  obtain ⟨a, cap, rfl, hc⟩ := hv.shape
  have HT : Hid (((n : Int) * 128).toNat = n * 128) := (by omega : ((n : Int) * 128).toNat = n * 128)
  go_enter Try.func9, Try.ntmps9
  go_wp2_with fail
  refine (l1BlocksOK_any _ _).mono ?_
  rintro e w' ⟨rfl, rfl⟩
  go_wp2
  go_loopw [6, 7, 8] (fun u i _ wr => ∃ k : Nat, k ≤ n * 128 ∧ i = .int .i64 k ∧ Row8 (w.heap.size + 1) wr u (filled zs k) ∧ Below (w.heap.size + 1) (w.alloc dev0) wr)
    (fun _ i _ _ => n * 128 - (intOf i).toNat)
  case atStart => exact ⟨0, Nat.zero_le _, rfl, Row8.lit _ _ (by simp) _ (by simp), (Below.refl _ _).alloc (by simp) _⟩
  case round =>
    obtain ⟨k, hk, rfl, hown, hbel⟩ := hrel
    obtain ⟨ua, uc, hua⟩ := hown.shape
    subst hua
    have hsz : w.heap.size + 1 ≤ wr.heap.size := by have := hbel.size; simpa using this
    have hfl : (filled zs k).length < 140737488355328 := by rw [filled_length]; omega
    by_cases hlt : k < n * 128
    · have hlt' : (k : Int) < (n : Int) * 128 := by omega
      have HF : Hid (filled zs (k + 1) = filled zs k ++ [zs.getD (k % zs.length) 0]) := filled_snoc zs k
      by_cases hz : 0 < zs.length
      · obtain ⟨b, off, rfl, hcell⟩ := hc hz
        have hbw : b < w.heap.size := World.block_lt_of_cell? _ _ (hcell 0 hz)
        have hmod : k % zs.length < zs.length := Nat.mod_lt _ hz
        have g1 : wr.cell? ⟨b, off + k % zs.length, none⟩ = some (.int .u8 (zs.getD (k % zs.length) 0)) := by
          rw [hbel.cell (p := ⟨b, off + k % zs.length, none⟩) (by show b < w.heap.size + 1; omega), dev0, World.cell?_alloc_past _ _ _ hbw]
          exact hcell _ hmod
        have HG : Hid (zs[k % zs.length] = zs.getD (k % zs.length) 0) := by simp [Hid, hmod]
        clear hc hcell
        go_wp2_with (first | (at_builtin; refine wpList_append8 rfl _ _ rfl _ hown rfl rfl hfl hsz ?_; intro v' w1 hown1 hbel1 hsz1 hgr1) | go_in)
        rw [HG.out, ← HF.out] at hown1
        go_roundw
        case rel => exact ⟨k + 1, by omega, by go_num, hown1, hbel.trans hbel1⟩
        case measure => simp [intOf]; omega
      · have hz0 : zs = [] := List.eq_nil_of_length_eq_zero (by omega)
        subst hz0
        clear hc
        go_wp2_with (first | (at_builtin; refine wpList_append8 rfl _ _ rfl _ hown rfl rfl hfl hsz ?_; intro v' w1 hown1 hbel1 hsz1 hgr1) | go_in)
        rw [show [(0 : Int)] = [([] : List Int).getD (k % ([] : List Int).length) 0] from rfl, ← HF.out] at hown1
        go_roundw
        case rel => first | exact ⟨k + 1, by omega, by go_num, hown1, hbel.trans hbel1⟩ | ((repeat apply Exists.intro); exact ⟨⟨k + 1, by omega, by go_num, hown1, hbel.trans hbel1⟩, rfl⟩)
        case measure => simp [intOf]; omega
    · have hke : k = n * 128 := by omega
      have ho := hown.own (filled_small zs k hv.small)
      have HR : Hid (filled zs k = filled zs ((n : Int) * 128).toNat) := by rw [HT.out, hke]; rfl
      have g0 : wr.cell? ⟨w.heap.size, 0, none⟩ = some (.int .i64 0) := by rw [hbel.cell (p := ⟨w.heap.size, 0, none⟩) (Nat.lt_succ_self _)]; exact World.cell?_alloc_at _ _ _ _ rfl
      have g1 : wr.cell? ⟨w.heap.size, 1, none⟩ = some (.slice none 0 0) := by rw [hbel.cell (p := ⟨w.heap.size, 1, none⟩) (Nat.lt_succ_self _)]; exact World.cell?_alloc_at _ _ _ _ rfl
      have g2 : wr.cell? ⟨w.heap.size, 2, none⟩ = some (.slice none 0 0) := by rw [hbel.cell (p := ⟨w.heap.size, 2, none⟩) (Nat.lt_succ_self _)]; exact World.cell?_alloc_at _ _ _ _ rfl
      have f0 : ∀ j, wr.frozen? ⟨w.heap.size, j, none⟩ = false := fun j => by rw [hbel.frozen (p := ⟨w.heap.size, j, none⟩) (Nat.lt_succ_self _)]; exact World.frozen?_alloc_at _ _ _ _ rfl
      have hcp := Row8.capLe hown
      clear hke hc hown
      go_wp2
      refine bodyPost_ret (v := .tuple #[.agg #[.int .i64 n, .slice ua (filled zs k).length uc, .slice none 0 0], .int .i64 0]) (by simp [results, Try.results9, go_sem, g0, g1, g2]) rfl ⟨_, _, by rw [HR.out], ?_, ?_, ?_⟩
      · rw [← HR.out]; exact hcp
      · rw [← HR.out]; exact (dev_stored hbel ho _ _ _).1
      · exact (dev_stored hbel ho _ _ _).2


/-- one round of the drawing of a cache -/
def dst (zs : List Int) (B : Int) (i : Nat) (s : List (Int × List Int) × List Int × (Nat × Int)) : List (Int × List Int) × List Int × (Nat × Int) :=
  let b := if i < 14 then dbl zs s.2.2 else s.2.1
  let p := if i < 14 then adv zs s.2.2 3 else s.2.2
  if nxV zs (nxS zs p) 2 = 0 then (s.1 ++ [(nxV zs (nxS zs (nxS zs p)) 4, b)], b, nxS zs (nxS zs (nxS zs p))) else (s.1 ++ [(nxV zs p B, b)], b, nxS zs (nxS zs p))
def dlp (zs : List Int) (B : Int) (s : List (Int × List Int) × List Int × (Nat × Int)) : Nat → List (Int × List Int) × List Int × (Nat × Int)
  | 0 => s
  | k + 1 => dst zs B k (dlp zs B s k)

/-- the device under way: result's box at w's end, the device's at o, the disk in lo .. hi, the block that is drawn in gb -/
structure DvI (base g : Nat) (a : Option Addr) (c : Nat) (zs : List Int) (w : World) (o lo hi gb : Nat) (B : Int) (dv : Value) (D : List Int) (bc : Nat) (b : List Int) (cv : Value) (ps : List (Int × List Int)) (p : Nat × Int) (wr : World) : Prop where
  src : SrcX base g a c zs p wr
  res : Box3 wr w.heap.size (.int .i64 0) (.slice none 0 0) (.slice none 0 0) 25
  box : Box3 wr o (.int .i64 B) dv cv 25
  disk : Own8 lo hi wr dv D
  cache : PRow (fun q => w.heap.size < q ∧ q ≠ o ∧ ¬ (lo ≤ q ∧ q < hi) ∧ q ≠ gb) wr cv ps
  blk : Own8 gb (gb + 1) wr (.slice (some ⟨gb, 0, none⟩) 128 bc) b
  bl : b.length = 128
  cap : 128 ≤ bc
  at1 : w.heap.size < gb ∧ gb < wr.heap.size ∧ gb ≠ o ∧ ¬ (lo ≤ gb ∧ gb < hi)
  at2 : w.heap.size < lo ∧ lo ≤ hi ∧ hi ≤ o ∧ o < wr.heap.size
  frm : Frm (fun k => k = g ∨ w.heap.size ≤ k) w wr
theorem DvI.drawn {base g : Nat} {a : Option Addr} {c : Nat} {zs : List Int} {w : World} {o lo hi gb : Nat} {B : Int} {dv : Value} {D : List Int} {bc : Nat} {b : List Int} {cv : Value} {ps : List (Int × List Int)} {p p' : Nat × Int} {wr w' : World} (h : DvI base g a c zs w o lo hi gb B dv D bc b cv ps p wr) (hg : g < w.heap.size) (hs : SrcX base g a c zs p' w') (hf : Frm (· = g) wr w') : DvI base g a c zs w o lo hi gb B dv D bc b cv ps p' w' := by
  have a1 := h.at1
  have a2 := h.at2
  have hz := hf.size
  exact ⟨hs, (hf.block _ h.res.lt (by omega)).trans h.res, (hf.block _ h.box.lt (by omega)).trans h.box, h.disk.kept hz (fun q q1 q2 q3 => hf.block q q3 (by omega)), h.cache.kept hz (fun q q1 q2 => hf.block q q2 (by omega)), h.blk.kept hz (fun q q1 q2 q3 => hf.block q q3 (by omega)), h.bl, h.cap, ⟨a1.1, by omega, a1.2.2⟩, ⟨a2.1, a2.2.1, a2.2.2.1, by omega⟩, h.frm.trans (hf.wider fun k e => .inl e)⟩
theorem DvI.redraw {base g : Nat} {a : Option Addr} {c : Nat} {zs : List Int} {w : World} {o lo hi gb : Nat} {B : Int} {dv : Value} {D : List Int} {bc : Nat} {b : List Int} {cv : Value} {ps : List (Int × List Int)} {p p' : Nat × Int} {wr w' : World} (h : DvI base g a c zs w o lo hi gb B dv D bc b cv ps p wr) (hg : g < w.heap.size) (hs : SrcX base g a c zs p' w') (hf : Frm (· = g) wr w') {gb' bc' : Nat} {b' : List Int} (h1 : wr.heap.size ≤ gb') (h2 : gb' < w'.heap.size) (hO : Own8 gb' (gb' + 1) w' (.slice (some ⟨gb', 0, none⟩) 128 bc') b') (hl : b'.length = 128) (hc : 128 ≤ bc') : DvI base g a c zs w o lo hi gb' B dv D bc' b' cv ps p' w' := by
  have k := h.drawn hg hs hf
  have a2 := h.at2
  have a1 := h.at1
  have hc2 : PRow (fun q => w.heap.size < q ∧ q ≠ o ∧ ¬ (lo ≤ q ∧ q < hi) ∧ q ≠ gb') wr cv ps := h.cache.wider fun q q1 q2 => by omega
  exact ⟨hs, k.res, k.box, k.disk, hc2.kept hf.size (fun q q1 q2 => hf.block q q2 (by omega)), hO, hl, hc, ⟨by omega, h2, by omega, by omega⟩, k.at2, k.frm⟩

theorem dst_len (zs : List Int) (B : Int) (i : Nat) (s : List (Int × List Int) × List Int × (Nat × Int)) : (dst zs B i s).1.length = s.1.length + 1 := by
  unfold dst
  by_cases h : nxV zs (nxS zs (if i < 14 then adv zs s.2.2 3 else s.2.2)) 2 = 0
  · simp only [h, if_true, List.length_append, List.length_cons, List.length_nil]
  · simp only [h, if_false, List.length_append, List.length_cons, List.length_nil]
theorem dlp_len (zs : List Int) (B : Int) (s : List (Int × List Int) × List Int × (Nat × Int)) : ∀ k, (dlp zs B s k).1.length = s.1.length + k
  | 0 => rfl
  | k + 1 => by
    have ih := dlp_len zs B s k
    show (dst zs B k (dlp zs B s k)).1.length = _
    rw [dst_len, ih]; omega
theorem DvI.appended {base g : Nat} {a : Option Addr} {c : Nat} {zs : List Int} {w : World} {o lo hi gb : Nat} {B : Int} {dv : Value} {D : List Int} {bc : Nat} {b : List Int} {cv cv' : Value} {ps ps' : List (Int × List Int)} {p : Nat × Int} {wr w' : World} (h : DvI base g a c zs w o lo hi gb B dv D bc b cv ps p wr) (hg : g < w.heap.size) (hb : base ≤ w.heap.size) (e1 : Box3 w' o (.int .i64 B) dv cv' 25) (e2 : PRow (fun q => w.heap.size < q ∧ q ≠ o ∧ ¬ (lo ≤ q ∧ q < hi) ∧ q ≠ gb) w' cv' ps') (e3 : Frm (fun k => (w.heap.size < k ∧ k ≠ o ∧ ¬ (lo ≤ k ∧ k < hi) ∧ k ≠ gb) ∨ k = o) wr w') : DvI base g a c zs w o lo hi gb B dv D bc b cv' ps' p w' := by
  have a1 := h.at1
  have a2 := h.at2
  have hz := e3.size
  exact ⟨h.src.frm e3 (by omega) (fun q e => by omega), (e3.block _ h.res.lt (by omega)).trans h.res, e1, h.disk.kept hz (fun q q1 q2 q3 => e3.block q q3 (by omega)), e2, h.blk.kept hz (fun q q1 q2 q3 => e3.block q q3 (by omega)), h.bl, h.cap, ⟨a1.1, by omega, a1.2.2⟩, ⟨a2.1, a2.2.1, a2.2.2.1, by omega⟩, h.frm.trans (e3.mono fun k _ e => .inr (by omega))⟩

/-- ahead of the first block -/
structure DvP (base g : Nat) (a : Option Addr) (c : Nat) (zs : List Int) (w : World) (o lo hi : Nat) (B : Int) (dv : Value) (D : List Int) (p : Nat × Int) (wr : World) : Prop where
  src : SrcX base g a c zs p wr
  res : Box3 wr w.heap.size (.int .i64 0) (.slice none 0 0) (.slice none 0 0) 25
  box : Box3 wr o (.int .i64 B) dv (.slice none 0 0) 25
  disk : Own8 lo hi wr dv D
  at2 : w.heap.size < lo ∧ lo ≤ hi ∧ hi ≤ o ∧ o < wr.heap.size
  frm : Frm (fun k => k = g ∨ w.heap.size ≤ k) w wr
theorem DvP.drawn {base g : Nat} {a : Option Addr} {c : Nat} {zs : List Int} {w : World} {o lo hi : Nat} {B : Int} {dv : Value} {D : List Int} {p p' : Nat × Int} {wr w' : World} (h : DvP base g a c zs w o lo hi B dv D p wr) (hg : g < w.heap.size) (hs : SrcX base g a c zs p' w') (hf : Frm (· = g) wr w') : DvP base g a c zs w o lo hi B dv D p' w' := by
  have a2 := h.at2
  have hz := hf.size
  exact ⟨hs, (hf.block _ h.res.lt (by omega)).trans h.res, (hf.block _ h.box.lt (by omega)).trans h.box, h.disk.kept hz (fun q q1 q2 q3 => hf.block q q3 (by omega)), ⟨a2.1, a2.2.1, a2.2.2.1, by omega⟩, h.frm.trans (hf.wider fun k e => .inl e)⟩
theorem DvP.block {base g : Nat} {a : Option Addr} {c : Nat} {zs : List Int} {w : World} {o lo hi : Nat} {B : Int} {dv : Value} {D : List Int} {p p' : Nat × Int} {wr w' : World} (h : DvP base g a c zs w o lo hi B dv D p wr) (hg : g < w.heap.size) (hs : SrcX base g a c zs p' w') (hf : Frm (· = g) wr w') {gb' bc' : Nat} {b' : List Int} (h1 : wr.heap.size ≤ gb') (h2 : gb' < w'.heap.size) (hO : Own8 gb' (gb' + 1) w' (.slice (some ⟨gb', 0, none⟩) 128 bc') b') (hl : b'.length = 128) (hc : 128 ≤ bc') : DvI base g a c zs w o lo hi gb' B dv D bc' b' (.slice none 0 0) [] p' w' := by
  have k := h.drawn hg hs hf
  have a2 := h.at2
  exact ⟨hs, k.res, k.box, k.disk, PRow.nil _ _, hO, hl, hc, ⟨by omega, h2, by omega, by omega⟩, k.at2, k.frm⟩

/-- how a drawn device is spoilt -/
def spl (zs : List Int) (B : Int) (D : List Int) (s : List (Int × List Int) × List Int × (Nat × Int)) : (Int × List Int × List (Int × List Int)) × (Nat × Int) :=
  if nxV zs s.2.2 6 = 0 then
    ((if nxV zs (nxS zs s.2.2) 5 = 0 then (B, D.drop 1, s.1) else if nxV zs (nxS zs s.2.2) 5 = 1 then (B + 1, D, s.1) else if nxV zs (nxS zs s.2.2) 5 = 2 then (B, D, s.1 ++ [(B, s.2.1)]) else if nxV zs (nxS zs s.2.2) 5 = 3 then (B, D, s.1 ++ [(-1, s.2.1)]) else (B, D, s.1 ++ [(0, s.2.1.drop 1)])), nxS zs (nxS zs s.2.2))
  else ((B, D, s.1), nxS zs s.2.2)
/-- a drawn device, and the source behind it -/
def ddA (zs : List Int) (p : Nat × Int) : List Int := dby zs (nxS zs (dbS zs p)) (nxV zs (dbS zs p) 40).toNat
def ddB (zs : List Int) (p : Nat × Int) : Nat × Int := adv zs (nxS zs (dbS zs p)) (nxV zs (dbS zs p) 40).toNat
def ddC (zs : List Int) (p : Nat × Int) (p2 : Nat × Int) : Nat × (Nat × Int) := if nxV zs (nxS zs p2) 30 = 0 then (2048 - (nxV zs (nxS zs (nxS zs p2)) 2).toNat, nxS zs (nxS zs (nxS zs p2))) else ((nxV zs p2 14).toNat, nxS zs (nxS zs p2))
def ddR (zs : List Int) (p : Nat × Int) : (Int × List Int × List (Int × List Int)) × (Nat × Int) :=
  spl zs (dbV zs p) (filled (ddA zs p) (dbV zs p * 128).toNat) (dlp zs (dbV zs p) ([], dbl zs (ddC zs p (ddB zs p)).2, adv zs (ddC zs p (ddB zs p)).2 3) (ddC zs p (ddB zs p)).1)

/-- the drawn device -/
def DvR (base g : Nat) (a : Option Addr) (c : Nat) (zs : List Int) (w : World) (r : (Int × List Int × List (Int × List Int)) × (Nat × Int)) (v : Value) (wr : World) : Prop :=
  ∃ da dc ca cc lo hi, ∃ S : Nat → Prop, v = .agg #[.int .i64 r.1.1, .slice da r.1.2.1.length dc, .slice ca r.1.2.2.length cc] ∧ r.1.2.1.length ≤ dc ∧ Own8 lo hi wr (.slice da r.1.2.1.length dc) r.1.2.1 ∧ PRow S wr (.slice ca r.1.2.2.length cc) r.1.2.2 ∧ (∀ q, S q → w.heap.size ≤ q ∧ ¬ (lo ≤ q ∧ q < hi)) ∧ w.heap.size ≤ lo ∧ SrcX base g a c zs r.2 wr ∧ Frm (· = g) w wr
theorem DvR.mk {base g : Nat} {a : Option Addr} {c : Nat} {zs : List Int} {w W : World} {p : Nat × Int} {B : Int} {D : List Int} {ps : List (Int × List Int)} {da ca : Option Addr} {dc cc lo hi : Nat} {S : Nat → Prop} (hs : SrcX base g a c zs p W) (hg : g < w.heap.size) (hd : Own8 lo hi W (.slice da D.length dc) D) (hdc : D.length ≤ dc) (hc : PRow S W (.slice ca ps.length cc) ps) (hS : ∀ q, S q → w.heap.size < q ∧ ¬ (lo ≤ q ∧ q < hi)) (hlo : w.heap.size < lo) (hb : base ≤ w.heap.size) (hf : Frm (fun k => k = g ∨ w.heap.size ≤ k) w W) (x y z : Value) :
    DvR base g a c zs w ((B, D, ps), p) (.agg #[.int .i64 B, .slice da D.length dc, .slice ca ps.length cc]) (((W.setCell ⟨w.heap.size, 0, none⟩ x).setCell ⟨w.heap.size, 1, none⟩ y).setCell ⟨w.heap.size, 2, none⟩ z) := by
  have hk : ∀ k, k ≠ w.heap.size → (((W.setCell ⟨w.heap.size, 0, none⟩ x).setCell ⟨w.heap.size, 1, none⟩ y).setCell ⟨w.heap.size, 2, none⟩ z).heap[k]? = W.heap[k]? := fun k hk => (Below.heap_setCell _ _ _ _ hk).trans ((Below.heap_setCell _ _ _ _ hk).trans (Below.heap_setCell _ _ _ _ hk))
  have hsz : W.heap.size ≤ (((W.setCell ⟨w.heap.size, 0, none⟩ x).setCell ⟨w.heap.size, 1, none⟩ y).setCell ⟨w.heap.size, 2, none⟩ z).heap.size := by simp
  have hF : Frm (fun k => k = w.heap.size) W (((W.setCell ⟨w.heap.size, 0, none⟩ x).setCell ⟨w.heap.size, 1, none⟩ y).setCell ⟨w.heap.size, 2, none⟩ z) := ⟨rfl, rfl, rfl, hsz, fun k _ hn => hk k hn⟩
  exact ⟨da, dc, ca, cc, lo, hi, S, rfl, hdc, hd.kept hsz (fun q q1 _ _ => hk q (by omega)), hc.kept hsz (fun q q1 _ => hk q (by have := (hS q q1).1; omega)), fun q e => ⟨by have := (hS q e).1; omega, (hS q e).2⟩, by omega, hs.frm hF (by omega) (fun q e => by omega), (hf.trans (hF.mono fun q _ e => .inr (by omega))).mono fun q h1 h2 => by omega⟩
theorem Own8.drop1 {lo hi : Nat} {w : World} {b off n cap : Nat} {zs : List Int} (h : Own8 lo hi w (.slice (some ⟨b, off, none⟩) n cap) zs) (hn : 0 < n) (m cap' : Nat) (hm : m + 1 = n) : Own8 lo hi w (.slice (some ⟨b, off + 1, none⟩) m cap') (zs.drop 1) := by
  obtain ⟨_, _, he, hs⟩ := h.shape
  simp only [Value.slice.injEq] at he
  obtain ⟨rfl, rfl, rfl⟩ := he
  obtain ⟨_, _, he, h1, h2, h3, hc⟩ := hs (by omega)
  simp only [Option.some.injEq, Addr.mk.injEq, and_true] at he
  obtain ⟨rfl, rfl⟩ := he
  have hl : (zs.drop 1).length = m := by simp; omega
  refine ⟨fun i => ?_, _, _, by rw [hl], fun hp => ⟨b, off + 1, rfl, h1, h2, h3, fun i hi => ?_⟩⟩
  · have := h.small (i + 1)
    simpa [List.getElem?_drop] using this
  · rw [hl] at hi
    obtain ⟨c1, c2⟩ := hc (i + 1) (by omega)
    rw [show off + 1 + i = off + (i + 1) by omega]
    refine ⟨?_, c2⟩
    rw [c1]
    simp

theorem DvI.boxed {base g : Nat} {a : Option Addr} {c : Nat} {zs : List Int} {w : World} {o lo hi gb : Nat} {B : Int} {dv : Value} {D : List Int} {bc : Nat} {b : List Int} {cv : Value} {ps : List (Int × List Int)} {p : Nat × Int} {wr : World} (h : DvI base g a c zs w o lo hi gb B dv D bc b cv ps p wr) (hg : g < w.heap.size) (hb : base ≤ w.heap.size) (i : Nat) (x : Value) :
    SrcX base g a c zs p (wr.setCell ⟨o, i, none⟩ x) ∧ Box3 (wr.setCell ⟨o, i, none⟩ x) w.heap.size (.int .i64 0) (.slice none 0 0) (.slice none 0 0) 25 ∧ Own8 lo hi (wr.setCell ⟨o, i, none⟩ x) dv D ∧ PRow (fun q => w.heap.size < q ∧ q ≠ o ∧ ¬ (lo ≤ q ∧ q < hi) ∧ q ≠ gb) (wr.setCell ⟨o, i, none⟩ x) cv ps ∧ Frm (fun k => k = g ∨ w.heap.size ≤ k) w (wr.setCell ⟨o, i, none⟩ x) := by
  have a1 := h.at1
  have a2 := h.at2
  have hk : ∀ k, k ≠ o → (wr.setCell ⟨o, i, none⟩ x).heap[k]? = wr.heap[k]? := fun k hk => Below.heap_setCell _ _ _ _ hk
  have hsz : wr.heap.size ≤ (wr.setCell ⟨o, i, none⟩ x).heap.size := by simp
  have hF : Frm (· = o) wr (wr.setCell ⟨o, i, none⟩ x) := ⟨rfl, rfl, rfl, hsz, fun k _ hn => hk k hn⟩
  exact ⟨h.src.frm hF (by omega) (fun q e => by omega), (hk _ (by omega)).trans h.res, h.disk.kept hsz (fun q q1 q2 _ => hk q (by omega)), h.cache.kept hsz (fun q q1 _ => hk q (by omega)), h.frm.trans (hF.mono fun q _ e => .inr (by omega))⟩

theorem DvR.mk2 {base g : Nat} {a : Option Addr} {c : Nat} {zs : List Int} {w W : World} {p : Nat × Int} {B : Int} {D : List Int} {ps : List (Int × List Int)} {da ca : Option Addr} {dc cc lo hi m : Nat} {S : Nat → Prop} (hs : SrcX base g a c zs p W) (hg : g < w.heap.size) (hd : Own8 lo hi W (.slice da D.length dc) D) (hdc : D.length ≤ dc) (hm : ps.length = m) (hc : PRow S W (.slice ca m cc) ps) (hS : ∀ q, S q → w.heap.size < q ∧ ¬ (lo ≤ q ∧ q < hi)) (hlo : w.heap.size < lo) (hb : base ≤ w.heap.size) (hf : Frm (fun k => k = g ∨ w.heap.size ≤ k) w W) (x y z : Value) :
    DvR base g a c zs w ((B, D, ps), p) (.agg #[.int .i64 B, .slice da D.length dc, .slice ca m cc]) (((W.setCell ⟨w.heap.size, 0, none⟩ x).setCell ⟨w.heap.size, 1, none⟩ y).setCell ⟨w.heap.size, 2, none⟩ z) := by
  subst hm
  exact DvR.mk hs hg hd hdc hc hS hlo hb hf x y z

/-- one more, whose bytes lie in a block outside S -/
theorem PRow.snocX {S : Nat → Prop} {w1 w' : World} {v v' : Value} {ps : List (Int × List Int)} (q : Int) (ds : List Int) {da : Option Addr} {dc gn : Nat} (hR : PRow S w1 v ps) (hgn : ¬ S gn) (hgn2 : gn < w1.heap.size) (ho : Own8 gn (gn + 1) w1 (.slice da ds.length dc) ds) (hS : ∀ k, w1.heap.size ≤ k → S k)
    (hown : ∀ xs, w1.ownsRow 0 38 2 v ps.length xs → w'.ownsRow 0 38 2 v' (ps.length + 1) (xs ++ [.int .i64 q, .slice da ds.length dc])) (hgr : w1.grownBy w' v.ownBlock) (hat : v'.ownBlock = v.ownBlock ∨ ∃ k, v'.ownBlock = some k ∧ w1.heap.size ≤ k) :
    PRow (fun q => S q ∨ q = gn) w' v' (ps ++ [(q, ds)]) := by
  obtain ⟨xs, g, h1, h2, h3, h4⟩ := hR
  have hv : ∀ b, v.ownBlock = some b → S b ∧ b < w1.heap.size := fun b e => ⟨h2 b e, (h1.lt b e).2⟩
  have hne : some gn ≠ v.ownBlock := fun e => hgn (h2 gn e.symm)
  have hx : xs.length = ps.length * 2 := h1.1
  refine ⟨_, fun i => if i = ps.length then gn else g i, by simpa using hown xs h1, fun b hb => ?_, fun i hi => ?_, fun i j hi hj he => ?_⟩
  · rcases hat with e | ⟨k, e, hk⟩
    · exact .inl (hv b (e ▸ hb)).1
    · rw [e] at hb; cases hb; exact .inl (hS _ (by omega))
  · by_cases he : i = ps.length
    · subst he
      simp only [if_true, getD_snoc]
      refine ⟨.inr trivial, by have := hgr.size; omega, fun e => ?_, ?_, da, dc, ?_, ho.kept hgr.size fun x x1 x2 x3 => hgr.block x x3 (by rw [show x = gn by omega]; exact hne)⟩
      · rcases hat with e1 | ⟨k, e1, hk⟩
        · rw [e1] at e; exact hne e
        · rw [e1] at e; cases e; omega
      · rw [List.getElem?_append_right (by omega), hx]; simp
      · rw [List.getElem?_append_right (by omega), hx, show ps.length * 2 + 1 - ps.length * 2 = 1 by omega]; rfl
    · have hi' : i < ps.length := by simp at hi; omega
      obtain ⟨g1, g2, g3, g4, da', dc', g5, g6⟩ := h3 i hi'
      simp only [if_neg he, getD_snoc_lt _ _ _ hi']
      refine ⟨.inl g1, by have := hgr.size; omega, fun e => ?_, ?_, da', dc', ?_, g6.kept hgr.size fun x x1 x2 x3 => hgr.block x x3 ?_⟩
      · rcases hat with e1 | ⟨k, e1, hk⟩
        · rw [e1] at e; exact g3 e
        · rw [e1] at e; cases e; omega
      · rw [List.getElem?_append_left (by omega)]; exact g4
      · rw [List.getElem?_append_left (by omega)]; exact g5
      · obtain rfl : x = g i := by omega
        exact g3
  · simp only [List.length_append, List.length_cons, List.length_nil] at hi hj he
    by_cases h1' : i = ps.length
    · by_cases h2' : j = ps.length
      · omega
      · rw [if_pos h1', if_neg h2'] at he
        exact absurd (he ▸ (h3 j (by omega)).1) hgn
    · by_cases h2' : j = ps.length
      · rw [if_neg h1', if_pos h2'] at he
        exact absurd (he ▸ (h3 i (by omega)).1) hgn
      · rw [if_neg h1', if_neg h2'] at he
        exact h4 i j (by omega) (by omega) he
theorem step_appendX {ops : Array Oper} {o : Oper} {a : Act} {K : Act → World → Prop} {Q : Exit → Act → World → Prop} {E : Prop} (hgd : o.guard = none) (s x : Operand)
    (ho : o.op = .call { callee := .builtin .append, args := #[s, x], argTypes := #[23, 23] })
    {S : Nat → Prop} {w1 : World} {v : Value} {ps : List (Int × List Int)} (q : Int) (ds : List Int) {m : Nat} (hm : ds.length = m) {da : Option Addr} {dc gn : Nat} (hR : PRow S w1 v ps)
    (hgn : ¬ S gn) (hgn2 : gn < w1.heap.size) (hw : Own8 gn (gn + 1) w1 (.slice da m dc) ds) (hS : ∀ k, w1.heap.size ≤ k → S k)
    (hs : a.eval s = v) (hx : ∃ g, a.eval x = .slice (some ⟨g, 0, none⟩) 1 1 ∧ g = w1.heap.size) (hlen : ps.length < 1048576)
    (h : ∀ v' w', PRow (fun q => S q ∨ q = gn) w' v' (ps ++ [(q, ds)]) → Frm S w1 w' → K (a.put o.dst v') w') :
    if Region.wanted o (yielded ops a.tmps) = true then Oper.wp Try.prog o a (w1.alloc (.cells #[.int .i64 q, .slice da m dc] 38)) K Q else E := by
  rw [if_pos (by simp [Region.wanted, hgd])]
  subst hm
  obtain ⟨i0, hi, hzz⟩ := Option.map_eq_some_iff.1 infoPend
  simp only [Prod.mk.injEq] at hzz
  obtain ⟨hz0, hz1, hz2⟩ := hzz
  obtain ⟨_, hx, rfl⟩ := hx
  have hR0 := hR
  obtain ⟨xs0, g0, k1, k2, k3, k4⟩ := hR
  obtain ⟨v', w', hr, h1, h2, _, h4⟩ := run_append_own_at (P := Try.prog) (w1.alloc (.cells #[.int .i64 q, .slice da ds.length dc] 38)) 0 23 o.type 38 i0 _ 2 32 Try.underlying23 hi hz0 hz1 hz2 rfl (by decide) v _ _ (k1.alloc _) ⟨w1.heap.size, 0, none⟩ 1 1 [.int .i64 q, .slice da ds.length dc] rfl (fun j u hj => by
    match j, hj with
    | 0, hj => simp at hj; subst hj; simp [Addr.add, World.cell?_alloc_at]
    | 1, hj => simp at hj; subst hj; simp [Addr.add, World.cell?_alloc_at]) (fun u hu => by
    simp at hu
    rcases hu with rfl | rfl <;> rfl) (by unfold maxLen; omega) (by omega) (Nat.zero_le _)
  unfold Oper.wp execOp
  simp only [ho, resolve, invoke, builtin, Sem.run_bind, Sem.run_pure, Result.andThen_ok, List.map_toArray, List.map_cons, List.map_nil, hs, hx, hr]
  have hA := belowA w1 (.cells #[.int .i64 q, .slice da ds.length dc] 38)
  have hA2 : (w1.alloc (.cells #[.int .i64 q, .slice da ds.length dc] 38)).heap.size = w1.heap.size + 1 := by simp
  have hgr : w1.grownBy w' v.ownBlock := ⟨h2.os.trans hA.os, h2.tape.trans hA.tape, h2.output.trans hA.output, Nat.le_trans hA.size h2.size, fun k hk hn => (h2.block k (by omega) hn).trans (hA.block k hk)⟩
  have hxs : ∀ xs, w1.ownsRow 0 38 2 v ps.length xs → xs = xs0 := fun xs hxs => by
    apply List.ext_getElem?
    intro j
    by_cases hj : j < ps.length * 2
    · rcases k1.2 with ⟨_, e⟩ | ⟨gg, cap, cur, hv, _⟩
      · omega
      · subst hv
        have q1 := hxs.cellAt j hj
        have q2 := k1.cellAt j hj
        exact q1.symm.trans q2
    · rw [List.getElem?_eq_none (by have := hxs.1; omega), List.getElem?_eq_none (by have := k1.1; omega)]
  refine h v' w' (PRow.snocX (w1 := w1) q ds hR0 hgn hgn2 hw hS (fun xs hx' => by rw [hxs xs hx']; exact h1) hgr ?_) ⟨hgr.os, hgr.tape, hgr.output, hgr.size, fun k hk hn => hgr.block k hk fun e => hn (k2 k e.symm)⟩
  rcases h4 with e | e
  · exact .inl e
  · exact .inr ⟨_, e, by omega⟩
theorem DvR.mk3 {base g : Nat} {a : Option Addr} {c : Nat} {zs : List Int} {w W : World} {p : Nat × Int} {B : Int} {D : List Int} {ps : List (Int × List Int)} {da ca : Option Addr} {dc cc lo hi m l : Nat} {S : Nat → Prop} (hs : SrcX base g a c zs p W) (hg : g < w.heap.size) (hl : D.length = l) (hd : Own8 lo hi W (.slice da l dc) D) (hdc : D.length ≤ dc) (hm : ps.length = m) (hc : PRow S W (.slice ca m cc) ps) (hS : ∀ q, S q → w.heap.size < q ∧ ¬ (lo ≤ q ∧ q < hi)) (hlo : w.heap.size < lo) (hb : base ≤ w.heap.size) (hf : Frm (fun k => k = g ∨ w.heap.size ≤ k) w W) (x y z : Value) :
    DvR base g a c zs w ((B, D, ps), p) (.agg #[.int .i64 B, .slice da l dc, .slice ca m cc]) (((W.setCell ⟨w.heap.size, 0, none⟩ x).setCell ⟨w.heap.size, 1, none⟩ y).setCell ⟨w.heap.size, 2, none⟩ z) := by
  subst hl
  exact DvR.mk2 hs hg hd hdc hm hc hS hlo hb hf x y z

end Go.Proofs.Ytbadedhliplkeaa

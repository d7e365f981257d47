import Derived.Test.YtempdkoflofglaaGreatDoorPV
namespace Go.Proofs.YtempdkoflofglaaGreatDoor
open Go.RowKit
set_option linter.unusedVariables false

/-- a command -/
structure Cmd where
  op : Int
  tree : Int
  path : ByteArray
  path2 : ByteArray
  off : Int
  len : Int
  data : ByteArray
/-- its cells -/
def Cmd.cells (c : Cmd) : Array Value := #[.int .i64 c.op, .int .i64 c.tree, .string c.path, .string c.path2, .int .i64 c.off, .int .i64 c.len, .string c.data]
/-- the empty text -/
def eT : ByteArray := { data := #[] }
/-- a command of which only the number is set -/
def cmd0 (op : Int) : Cmd := ⟨op, 0, eT, eT, 0, 0, eT⟩

/-- a command lies in block b -/
def CBox (w : World) (b : Nat) (c : Cmd) : Prop := w.heap[b]? = some (.cells c.cells 23 (0, 0))

theorem CBox.lt {w : World} {b : Nat} {c : Cmd} (h : CBox w b c) : b < w.heap.size := (Array.getElem?_eq_some_iff.1 h).1
theorem CBox.below {w w' : World} {b : Nat} {c : Cmd} (h : CBox w b c) (k : Below w.heap.size w w') : CBox w' b c := (k.block b h.lt).trans h
theorem CBox.upd {w w' : World} {b lo hi : Nat} {c : Cmd} (h : CBox w b c) (k : Upd lo hi w w') (hd : b < lo ∨ hi ≤ b) : CBox w' b c := (k.block b h.lt hd).trans h
theorem CBox.made (w : World) (c : Cmd) (g : Nat) (hg : g = w.heap.size) : CBox (w.alloc (.cells c.cells 23)) g c := by subst hg; exact heap_alloc_new w _
theorem CBox.cell {w : World} {b : Nat} {c : Cmd} (h : CBox w b c) (i : Nat) : w.cell? ⟨b, i, none⟩ = c.cells[i]? := by
  unfold CBox at h
  simp [World.cell?, h]
theorem CBox.free {w : World} {b : Nat} {c : Cmd} (h : CBox w b c) (i : Nat) : w.frozen? ⟨b, i, none⟩ = false := frozen_of_row w b i _ _ h
theorem CBox.set {w : World} {b : Nat} {c c' : Cmd} (h : CBox w b c) (i : Nat) (u : Value) (hc : c.cells.setIfInBounds i u = c'.cells) : CBox (w.setCell ⟨b, i, none⟩ u) b c' ∧ Upd b (b + 1) w (w.setCell ⟨b, i, none⟩ u) := by
  have e := heap_setCell_same w b i _ _ u h
  rw [hc] at e
  exact ⟨e, (Upd.refl _ _ _).setCell (p := ⟨b, i, none⟩) (Nat.le_refl _) (Nat.lt_succ_self _) u⟩

/-- the word "-" -/
def dash : ByteArray := { data := #[45] }
/-- what a word of kind k leaves -/
def layC (c : Cmd) (k : Nat) (s : ByteArray) : Cmd :=
  match k with
  | 0 => { c with tree := nmV s }
  | 1 => { c with path := s }
  | 2 => { c with path2 := s }
  | 3 => { c with off := nmV s }
  | 4 => { c with len := nmV s }
  | 5 => { c with data := s }
  | 6 => { c with data := s, len := s.size }
  | _ => if s.toList == [45] then c else { c with data := s, len := s.size }
/-- whether it is of that kind -/
def layG (k : Nat) (s : ByteArray) : Bool :=
  match k with
  | 0 => nmOK s
  | 1 => true
  | 2 => true
  | 3 => nmOK s
  | 4 => nmOK s
  | 5 => ((s.size : Int) == 1)
  | 6 => true
  | _ => (s.toList == [45]) || mkOK s

set_option maxRecDepth 100000 in
set_option maxHeartbeats 1600000 in
theorem lay_0 (b : Nat) (c : Cmd) (s : ByteArray) (w : World) (h : CBox w b c) (h1 : 1 ≤ s.size) (hs : s.size ≤ 1500) :
    Calls Tryz.prog 15 #[.pointer (some ⟨b, 0, none⟩), .int .i64 0, .string s] w fun e w' => e = .returned (.bool (layG 0 s)) ∧ CBox w' b (layC c 0 s) ∧ Upd b (b + 1) w w' := by
  go_enter Tryz.func15, Tryz.ntmps15
  go_wp2_with (go_at_call 29; refine (numberIn_any s w h1 hs).mono ?_)
  rintro e w1 ⟨rfl, hb1⟩
  have hw := h.below hb1
  have hst := hw.set (c' := layC c 0 s) 1 (.int .i64 (nmV s)) rfl
  have hu : Upd b (b + 1) w w1 := Upd.of_below _ _ hb1
  have hd : w1.cell? ⟨b, 1, none⟩ = some (.int .i64 c.tree) := hw.cell 1
  have hfr := hw.free
  clear h hw hb1
  go_wp2_with fail
  go_ret
  exact ⟨rfl, hst.1, hu.trans hst.2⟩

set_option maxRecDepth 100000 in
set_option maxHeartbeats 1600000 in
theorem lay_3 (b : Nat) (c : Cmd) (s : ByteArray) (w : World) (h : CBox w b c) (h1 : 1 ≤ s.size) (hs : s.size ≤ 1500) :
    Calls Tryz.prog 15 #[.pointer (some ⟨b, 0, none⟩), .int .i64 3, .string s] w fun e w' => e = .returned (.bool (layG 3 s)) ∧ CBox w' b (layC c 3 s) ∧ Upd b (b + 1) w w' := by
  go_enter Tryz.func15, Tryz.ntmps15
  go_wp2_with (go_at_call 29; refine (numberIn_any s w h1 hs).mono ?_)
  rintro e w1 ⟨rfl, hb1⟩
  have hw := h.below hb1
  have hst := hw.set (c' := layC c 3 s) 4 (.int .i64 (nmV s)) rfl
  have hu : Upd b (b + 1) w w1 := Upd.of_below _ _ hb1
  have hd : w1.cell? ⟨b, 4, none⟩ = some (.int .i64 c.off) := hw.cell 4
  have hfr := hw.free
  clear h hw hb1
  go_wp2_with fail
  go_ret
  exact ⟨rfl, hst.1, hu.trans hst.2⟩

set_option maxRecDepth 100000 in
set_option maxHeartbeats 1600000 in
theorem lay_4 (b : Nat) (c : Cmd) (s : ByteArray) (w : World) (h : CBox w b c) (h1 : 1 ≤ s.size) (hs : s.size ≤ 1500) :
    Calls Tryz.prog 15 #[.pointer (some ⟨b, 0, none⟩), .int .i64 4, .string s] w fun e w' => e = .returned (.bool (layG 4 s)) ∧ CBox w' b (layC c 4 s) ∧ Upd b (b + 1) w w' := by
  go_enter Tryz.func15, Tryz.ntmps15
  go_wp2_with (go_at_call 29; refine (numberIn_any s w h1 hs).mono ?_)
  rintro e w1 ⟨rfl, hb1⟩
  have hw := h.below hb1
  have hst := hw.set (c' := layC c 4 s) 5 (.int .i64 (nmV s)) rfl
  have hu : Upd b (b + 1) w w1 := Upd.of_below _ _ hb1
  have hd : w1.cell? ⟨b, 5, none⟩ = some (.int .i64 c.len) := hw.cell 5
  have hfr := hw.free
  clear h hw hb1
  go_wp2_with fail
  go_ret
  exact ⟨rfl, hst.1, hu.trans hst.2⟩

set_option maxRecDepth 100000 in
set_option maxHeartbeats 1600000 in
theorem lay_1 (b : Nat) (c : Cmd) (s : ByteArray) (w : World) (h : CBox w b c) (h1 : 1 ≤ s.size) (hs : s.size ≤ 1500) :
    Calls Tryz.prog 15 #[.pointer (some ⟨b, 0, none⟩), .int .i64 1, .string s] w fun e w' => e = .returned (.bool (layG 1 s)) ∧ CBox w' b (layC c 1 s) ∧ Upd b (b + 1) w w' := by
  have hst := h.set (c' := layC c 1 s) 2 (.string s) rfl
  have hd : w.cell? ⟨b, 2, none⟩ = some (.string c.path) := h.cell 2
  have hfr := h.free
  clear h
  go_enter Tryz.func15, Tryz.ntmps15
  go_wp2_with fail
  go_ret
  exact ⟨rfl, hst.1, hst.2⟩

set_option maxRecDepth 100000 in
set_option maxHeartbeats 1600000 in
theorem lay_2 (b : Nat) (c : Cmd) (s : ByteArray) (w : World) (h : CBox w b c) (h1 : 1 ≤ s.size) (hs : s.size ≤ 1500) :
    Calls Tryz.prog 15 #[.pointer (some ⟨b, 0, none⟩), .int .i64 2, .string s] w fun e w' => e = .returned (.bool (layG 2 s)) ∧ CBox w' b (layC c 2 s) ∧ Upd b (b + 1) w w' := by
  have hst := h.set (c' := layC c 2 s) 3 (.string s) rfl
  have hd : w.cell? ⟨b, 3, none⟩ = some (.string c.path2) := h.cell 3
  have hfr := h.free
  clear h
  go_enter Tryz.func15, Tryz.ntmps15
  go_wp2_with fail
  go_ret
  exact ⟨rfl, hst.1, hst.2⟩

set_option maxRecDepth 100000 in
set_option maxHeartbeats 1600000 in
theorem lay_5 (b : Nat) (c : Cmd) (s : ByteArray) (w : World) (h : CBox w b c) (h1 : 1 ≤ s.size) (hs : s.size ≤ 1500) :
    Calls Tryz.prog 15 #[.pointer (some ⟨b, 0, none⟩), .int .i64 5, .string s] w fun e w' => e = .returned (.bool (layG 5 s)) ∧ CBox w' b (layC c 5 s) ∧ Upd b (b + 1) w w' := by
  have hst := h.set (c' := layC c 5 s) 6 (.string s) rfl
  have hd : w.cell? ⟨b, 6, none⟩ = some (.string c.data) := h.cell 6
  have hfr := h.free
  clear h
  go_enter Tryz.func15, Tryz.ntmps15
  go_wp2_with fail
  go_ret
  exact ⟨rfl, hst.1, hst.2⟩

set_option maxRecDepth 100000 in
set_option maxHeartbeats 1600000 in
theorem lay_6 (b : Nat) (c : Cmd) (s : ByteArray) (w : World) (h : CBox w b c) (h1 : 1 ≤ s.size) (hs : s.size ≤ 1500) :
    Calls Tryz.prog 15 #[.pointer (some ⟨b, 0, none⟩), .int .i64 6, .string s] w fun e w' => e = .returned (.bool (layG 6 s)) ∧ CBox w' b (layC c 6 s) ∧ Upd b (b + 1) w w' := by
  obtain ⟨h6, u6⟩ := h.set (c' := { c with data := s }) 6 (.string s) rfl
  have hst := h6.set (c' := layC c 6 s) 5 (.int .i64 s.size) rfl
  have hd : w.cell? ⟨b, 6, none⟩ = some (.string c.data) := h.cell 6
  have hd5 : w.cell? ⟨b, 5, none⟩ = some (.int .i64 c.len) := h.cell 5
  have hfr := h.free
  clear h h6
  go_enter Tryz.func15, Tryz.ntmps15
  go_wp2_with fail
  go_ret
  exact ⟨rfl, hst.1, u6.trans hst.2⟩

set_option maxRecDepth 100000 in
set_option maxHeartbeats 1600000 in
theorem lay_7 (b : Nat) (c : Cmd) (s : ByteArray) (w : World) (h : CBox w b c) (h1 : 1 ≤ s.size) (hs : s.size ≤ 1500) :
    Calls Tryz.prog 15 #[.pointer (some ⟨b, 0, none⟩), .int .i64 7, .string s] w fun e w' => e = .returned (.bool (layG 7 s)) ∧ CBox w' b (layC c 7 s) ∧ Upd b (b + 1) w w' := by
  by_cases hm : (s.toList == [45]) = true
  · have HC : Hid (layC c 7 s = c) := by show layC c 7 s = c; simp only [layC, hm, if_true]
    have HG : Hid (layG 7 s = true) := by show layG 7 s = true; simp only [layG, hm, Bool.true_or]
    have e : s = { data := #[45] } := by
      have e1 := beq_iff_eq.1 hm
      rw [ByteArray.toList_eq] at e1
      cases s with
      | mk x => cases x with | mk l => simp at e1; rw [e1]
    subst e
    clear hs h1 hm
    go_enter Tryz.func15, Tryz.ntmps15
    go_wp2_with fail
    go_ret
    rw [HC.out, HG.out]
    exact ⟨rfl, h, Upd.refl _ _ _⟩
  · have hm' : (s.toList == [45]) = false := by simpa using hm
    have HC : Hid (layC c 7 s = { c with data := s, len := s.size }) := by show layC c 7 s = _; simp only [layC, hm']; rfl
    have HG : Hid (layG 7 s = mkOK s) := by show layG 7 s = _; simp only [layG, hm', Bool.false_or]
    clear hm
    go_enter Tryz.func15, Tryz.ntmps15
    go_wp2_with (go_at_call 30; refine (isMask_any s w h1 hs).mono ?_)
    rintro e w1 ⟨rfl, hb1⟩
    have hw := h.below hb1
    obtain ⟨h6, u6⟩ := hw.set (c' := { c with data := s }) 6 (.string s) rfl
    have hst := h6.set (c' := { c with data := s, len := s.size }) 5 (.int .i64 s.size) rfl
    have hu : Upd b (b + 1) w w1 := Upd.of_below _ _ hb1
    have hd : w1.cell? ⟨b, 6, none⟩ = some (.string c.data) := hw.cell 6
    have hd5 : w1.cell? ⟨b, 5, none⟩ = some (.int .i64 c.len) := hw.cell 5
    have hfr := hw.free
    clear h hw h6 hb1
    go_wp2_with fail
    go_ret
    rw [HC.out, HG.out]
    exact ⟨rfl, hst.1, (hu.trans u6).trans hst.2⟩

theorem lay_any (k : Nat) (hk : k ≤ 7) (b : Nat) (c : Cmd) (s : ByteArray) (w : World) (h : CBox w b c) (h1 : 1 ≤ s.size) (hs : s.size ≤ 1500) :
    Calls Tryz.prog 15 #[.pointer (some ⟨b, 0, none⟩), .int .i64 k, .string s] w fun e w' => e = .returned (.bool (layG k s)) ∧ CBox w' b (layC c k s) ∧ Upd b (b + 1) w w' := by
  match k, hk with
  | 0, _ => exact lay_0 b c s w h h1 hs
  | 1, _ => exact lay_1 b c s w h h1 hs
  | 2, _ => exact lay_2 b c s w h h1 hs
  | 3, _ => exact lay_3 b c s w h h1 hs
  | 4, _ => exact lay_4 b c s w h h1 hs
  | 5, _ => exact lay_5 b c s w h h1 hs
  | 6, _ => exact lay_6 b c s w h h1 hs
  | 7, _ => exact lay_7 b c s w h h1 hs

end Go.Proofs.YtempdkoflofglaaGreatDoor

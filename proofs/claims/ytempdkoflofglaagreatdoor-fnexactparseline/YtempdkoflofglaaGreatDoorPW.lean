import Derived.Test.YtempdkoflofglaaGreatDoorPC2
import Derived.Deep.LoopGhost
import Derived.WalkMore
namespace Go.Proofs.YtempdkoflofglaaGreatDoor
open Go.RowKit

/-- a byte that stands in a line -/
def gdL (x : Nat) : Bool := decide (32 ≤ x ∧ x ≤ 126)
/-- every byte of a text is good -/
def allB (g : Nat → Bool) (s : ByteArray) : Bool := s.data.toList.all fun b => g b.toNat

theorem allB_iff (g : Nat → Bool) (s : ByteArray) : allB g s = true ↔ ∀ k (h : k < s.size), g (s[k]'h).toNat = true := by
  unfold allB
  rw [List.all_eq_true]
  constructor
  · intro H k h
    exact H _ (by rw [show s[k]'h = s.data[k]'h from rfl]; exact Array.getElem_mem_toList h)
  · intro H b hb
    obtain ⟨k, hk, rfl⟩ := List.getElem_of_mem hb
    have hk' : k < s.size := by simpa using hk
    have := H k hk'
    rw [show s[k]'hk' = s.data[k]'hk' from rfl] at this
    simpa using this

theorem allB_bad {g : Nat → Bool} {s : ByteArray} (k : Nat) (h : k < s.size) (hb : g (s[k]'h).toNat = false) : allB g s = false := by
  by_cases hh : allB g s = true
  · rw [(allB_iff g s).1 hh k h] at hb; cases hb
  · simpa using hh

theorem allB_drop {g : Nat → Bool} {t : ByteArray} {pos : Nat} (hp : pos < t.size) (H : ∀ k (h : k < t.size), k ≤ pos → g (t[k]'h).toNat = true) : allB g (t.extract (pos + 1) t.size) = allB g t := by
  rw [Bool.eq_iff_iff, allB_iff, allB_iff]
  have hsz : (t.extract (pos + 1) t.size).size = t.size - (pos + 1) := by rw [ByteArray.size_extract]; omega
  constructor
  · intro h k hk
    by_cases hkp : k ≤ pos
    · exact H k hk hkp
    · have h2 := h (k - (pos + 1)) (by omega)
      rw [ext_get t (pos + 1) t.size (k - (pos + 1)) (Nat.le_refl _) (by omega)] at h2
      have e : pos + 1 + (k - (pos + 1)) = k := by omega
      simp only [e] at h2
      exact h2
  · intro h k hk
    rw [ext_get t (pos + 1) t.size k (Nat.le_refl _) hk]
    exact h (pos + 1 + k) (by omega)

/-- how long a text is -/
def tlen : Value → Nat
  | .string s => s.size
  | _ => 0

/-- wordsOf's answer -/
def WoR (s : ByteArray) (w w' : World) (v : Value) : Prop :=
  (allB gdL s = true ∧ (∃ a n cap, v = .slice (some a) n cap) ∧ SOwn w.heap.size w'.heap.size w' v (cut s)) ∨ (allB gdL s = false ∧ v = .slice none 0 0)

theorem SRow.some_of {base : Nat} {w : World} {v : Value} {zs : List ByteArray} (h : SRow base w v zs) (hp : 0 < zs.length) : ∃ a n cap, v = .slice (some a) n cap := by
  rcases h.2 with ⟨_, hn⟩ | ⟨g, cap, cur, hv, _⟩
  · omega
  · exact ⟨_, _, _, hv⟩

theorem iter_row {base : Nat} {w : World} {v : Value} {zs : List ByteArray} (h : SRow base w v zs) (t : ByteArray) (pos : Nat) : SRow base (w.iter t pos) v zs := World.ownsRow.alloc h _

set_option maxHeartbeats 4000000 in
theorem wordsOf_any (s : ByteArray) (w : World) (hs : s.size ≤ 1500) :
    Calls Tryz.prog 13 #[.string s] w fun e w' => ∃ v, e = .returned v ∧ WoR s w w' v ∧ Below w.heap.size w w' := by
  go_enter Tryz.func13, Tryz.ntmps13
  go_wp2
  go_step3
  go_wp2
  go_step3
  go_wp2
  go_loopg [0, 3] s.size (fun g ln out wr => ∃ (t : ByteArray) (zs : List ByteArray), g = t.size ∧ ln = .string t ∧ zs.length + t.size ≤ s.size ∧ SRow w.heap.size wr out zs ∧ Below w.heap.size w wr ∧ Hid (zs ++ cut t = cut s) ∧ Hid (allB gdL t = allB gdL s))
  case atStart => exact ⟨s, [], rfl, rfl, by simp, World.ownsRow_nil _ _ _ _, Below.refl _ _, rfl, rfl⟩
  case round =>
    obtain ⟨t, zs, rfl, rfl, hl, hown, hb, HC, HA⟩ := hrel
    have hbs := hb.size
    have HB : Hid (Below w.heap.size w wr) := hb
    have HO : Hid _ := hown
    clear hb hown
    go_wp2
    go_loopg [0, 3] t.size (fun g ln out w2 => ∃ pos : Nat, g = t.size - pos ∧ ln = .string t ∧ SRow w.heap.size wr out zs ∧ pos ≤ t.size ∧ w2 = wr.iter t pos ∧ ∀ k (h : k < t.size), k < pos → gdL (t[k]'h).toNat = true ∧ (t[k]'h).toNat ≠ 32)
    case atStart => exact ⟨0, rfl, rfl, HO.out, Nat.zero_le _, rfl, fun k _ hk => by omega⟩
    case round =>
      clear HO
      obtain ⟨pos, rfl, rfl, hown0, hp, rfl, hg⟩ := hrel
      have HG : Hid (∀ k (h : k < t.size), k < pos → gdL (t[k]'h).toNat = true ∧ (t[k]'h).toNat ≠ 32) := hg
      have hbi : Below w.heap.size w (wr.iter t pos) := HB.out.alloc hbs _
      have hown := iter_row hown0 t pos
      have hsz : w.heap.size ≤ (wr.iter t pos).heap.size := hbi.size
      have hfl : zs.length < 4294967296 := by omega
      have HBI : Hid (∀ p, Below w.heap.size w (wr.iter t p)) := fun p => HB.out.alloc hbs _
      have HO0 : Hid _ := hown0
      clear hg hbi
      by_cases hlt : pos < t.size
      · by_cases ha : (t[pos]'hlt).toNat < 128
        · have hnx : ∀ ty, (Instr.next (.pointer (some ⟨wr.heap.size, 0, none⟩)) true ty).run Tryz.prog (wr.iter t pos) = _ := fun ty => run_next_ascii wr t pos ty hlt ha
          by_cases h32 : (t[pos]'hlt).toNat = 32
          · have hi32 : ((t[pos]'hlt).toNat : Int) = 32 := by omega
            have hownp := iter_row hown0 t (pos + 1)
            have hszp : w.heap.size ≤ (wr.iter t (pos + 1)).heap.size := (HBI.out (pos + 1)).size
            have HH : Hid (cut t = t.extract 0 pos :: cut (t.extract (pos + 1) t.size)) := cut_hit t pos hlt h32 fun k h hk => (HG.out k h hk).2
            have HD : Hid (allB gdL (t.extract (pos + 1) t.size) = allB gdL t) := allB_drop hlt fun k h hk => by
              by_cases e : k = pos
              · subst e; rw [h32]; rfl
              · exact (HG.out k h (by omega)).1
            have hsx : (t.extract (pos + 1) t.size).size = t.size - (pos + 1) := by rw [ByteArray.size_extract]; omega
            go_wp2_with (first | (at_builtin; refine wpList_appendS rfl _ _ rfl (t.extract 0 pos) hownp rfl rfl hfl hszp ?_; intro v' w1 hown1 hbel1 hsz1 hgr1) | go_in)
            go_roundg (t.extract (pos + 1) t.size).size
            case measure => omega
            case rel =>
              refine ⟨t.extract (pos + 1) t.size, zs ++ [t.extract 0 pos], rfl, rfl, by simp; omega, hown1, (HBI.out (pos + 1)).trans hbel1, ?_, HD.out.trans HA.out⟩
              rw [← HC.out, HH.out]; simp [Hid]
          · have h32' : (((t[pos]'hlt).toNat : Int) == 32) = false := by
              apply Bool.eq_false_iff.2
              intro e
              have := beq_iff_eq.1 e
              omega
            by_cases h1 : 32 ≤ (t[pos]'hlt).toNat
            · by_cases h2 : (t[pos]'hlt).toNat ≤ 126
              · have hok : gdL (t[pos]'hlt).toNat = true := by simp [gdL, h1, h2]
                go_wp2
                go_roundg (t.size - (pos + 1))
                case measure => omega
                case rel =>
                  refine ⟨pos + 1, rfl, rfl, by assumption, by omega, rfl, fun k h hk => ?_⟩
                  by_cases e : k = pos
                  · subst e; exact ⟨hok, h32⟩
                  · exact HG.out k h (by omega)
              · have hbad : gdL (t[pos]'hlt).toNat = false := by simp [gdL, h2]
                have HF : Hid (allB gdL s = false) := HA.out.symm.trans (allB_bad pos hlt hbad)
                go_wp2
                try rw [Exit.noGoto_ret]
                go_ret
                exact ⟨_, rfl, .inr ⟨HF.out, rfl⟩, HBI.out _⟩
            · have hbad : gdL (t[pos]'hlt).toNat = false := by simp [gdL, h1]
              have HF : Hid (allB gdL s = false) := HA.out.symm.trans (allB_bad pos hlt hbad)
              go_wp2
              try rw [Exit.noGoto_ret]
              go_ret
              exact ⟨_, rfl, .inr ⟨HF.out, rfl⟩, HBI.out _⟩
        · have hnx : ∀ ty, (Instr.next (.pointer (some ⟨wr.heap.size, 0, none⟩)) true ty).run Tryz.prog (wr.iter t pos) = _ := fun ty => run_next_high wr t pos ty hlt
          have hd := (decode_high t pos hlt (by omega)).1
          have hd2 := decode_le t pos
          have hbad : gdL (t[pos]'hlt).toNat = false := by simp [gdL]; omega
          have HF : Hid (allB gdL s = false) := HA.out.symm.trans (allB_bad pos hlt hbad)
          generalize (Utf8.decode t pos).1 = rn at hnx hd hd2
          have h32' : ((rn : Int) == 32) = false := by
            apply Bool.eq_false_iff.2
            intro e
            have := beq_iff_eq.1 e
            omega
          go_wp2
          try rw [Exit.noGoto_ret]
          go_ret
          exact ⟨_, rfl, .inr ⟨HF.out, rfl⟩, HBI.out _⟩
      · have hnx : ∀ ty, (Instr.next (.pointer (some ⟨wr.heap.size, 0, none⟩)) true ty).run Tryz.prog (wr.iter t pos) = _ := fun ty => run_next_end wr t pos ty hlt
        have HM : Hid (cut t = [t]) := cut_miss t fun k h => (HG.out k h (by omega)).2
        have HT : Hid (allB gdL s = true) := HA.out.symm.trans ((allB_iff gdL t).2 fun k h => (HG.out k h (by omega)).1)
        go_wp2_with (first | (at_builtin; refine wpList_appendS rfl _ _ rfl t hown rfl rfl hfl hsz ?_; intro v' w1 hown1 hbel1 hsz1 hgr1) | go_in)
        try rw [Exit.noGoto_ret]
        go_ret
        have e : zs ++ [t] = cut s := by rw [← HC.out, HM.out]
        rw [e] at hown1
        exact ⟨v', rfl, .inl ⟨HT.out, hown1.some_of (by rw [← e]; simp), hown1.own⟩, (HBI.out pos).trans hbel1⟩

end Go.Proofs.YtempdkoflofglaaGreatDoor

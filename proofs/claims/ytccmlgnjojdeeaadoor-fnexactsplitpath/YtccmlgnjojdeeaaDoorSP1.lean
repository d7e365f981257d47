import Derived.Test.YtccmlgnjojdeeaaDoorSC2
namespace Go.Proofs.YtccmlgnjojdeeaaDoor
open Go.RowKit

/-- the code of the first name that is refused -/
def nmsC (g : Nat → Bool) : List ByteArray → Int
  | [] => 0
  | x :: r => if nmC g x = 0 then nmsC g r else nmC g x

theorem nmsC_good (g : Nat → Bool) : ∀ zs : List ByteArray, (∀ i, i < zs.length → nmC g (txt zs i) = 0) → nmsC g zs = 0
  | [], _ => rfl
  | x :: r, h => by
    have h0 : nmC g x = 0 := h 0 (by simp)
    rw [nmsC, if_pos h0]
    exact nmsC_good g r fun i hi => h (i + 1) (by simpa using hi)

theorem nmsC_bad (g : Nat → Bool) : ∀ (zs : List ByteArray) (j : Nat), j < zs.length → (∀ i, i < j → nmC g (txt zs i) = 0) → nmC g (txt zs j) ≠ 0 → nmsC g zs = nmC g (txt zs j)
  | [], j, hj, _, _ => by simp at hj
  | x :: r, 0, _, _, hb => by
    have hb' : nmC g x ≠ 0 := hb
    rw [nmsC, if_neg hb']; rfl
  | x :: r, j + 1, hj, h, hb => by
    have h0 : nmC g x = 0 := h 0 (by omega)
    rw [nmsC, if_pos h0]
    exact nmsC_bad g r j (by simpa using hj) (fun i hi => h (i + 1) (by omega)) hb

/-- the path begins with a slash -/
def pf (s : ByteArray) : Bool := Lib.hasPrefix s.data.toList [47]

theorem pf_iff (s : ByteArray) : pf s = true ↔ ∃ h : 0 < s.size, (s[0]'h).toNat = 47 := by
  unfold pf
  constructor
  · intro h
    cases hl : s.data.toList with
    | nil => rw [hl] at h; simp [Lib.hasPrefix] at h
    | cons b l =>
      have hs : 0 < s.size := by
        have : s.data.size = l.length + 1 := by rw [← Array.length_toList, hl]; rfl
        show 0 < s.data.size
        omega
      refine ⟨hs, ?_⟩
      have e := at_list s 0 hs
      rw [hl] at e h
      simp at e
      simp [Lib.hasPrefix] at h
      rw [← e, ← h]; rfl
  · rintro ⟨hs, h47⟩
    have e := at_list s 0 hs
    cases hl : s.data.toList with
    | nil => rw [hl] at e; simp at e
    | cons b l =>
      rw [hl] at e
      simp at e
      have : b = 47 := by rw [e]; exact UInt8.toNat_inj.1 h47
      subst this
      simp [Lib.hasPrefix]

/-- what a path is answered with -/
def spR (g : Nat → Bool) (s : ByteArray) : Int × List ByteArray :=
  if 200 < s.size then (4, []) else
  if pf s = false then (12, []) else
  if s.size = 1 then (0, []) else
  if nmsC g (cut (s.extract 1 s.size)) = 0 then (if 16 < (cut (s.extract 1 s.size)).length then (4, []) else (0, cut (s.extract 1 s.size)))
  else (nmsC g (cut (s.extract 1 s.size)), [])

theorem nmsC_same : ∀ zs : List ByteArray, (∀ x ∈ zs, ∀ k (h : k < x.size), (x[k]'h).toNat ≠ 47) → nmsC gdS zs = nmsC gdI zs
  | [], _ => rfl
  | x :: r, h => by
    rw [nmsC, nmsC, nmC_same x (h x (by simp)), nmsC_same r fun y hy => h y (by simp [hy])]

theorem spR_same (s : ByteArray) : spR gdS s = spR gdI s := by
  unfold spR
  rw [nmsC_same _ fun x hx => ((cut_pieces _ (s.extract 1 s.size) (Nat.le_refl _)).2.2 x hx).2]

theorem spR_len (g : Nat → Bool) (s : ByteArray) : (spR g s).2.length ≤ 16 := by
  unfold spR
  split
  · simp
  · split
    · simp
    · split
      · simp
      · split
        · split
          · simp
          · simp only; omega
        · simp

theorem txt_mem (zs : List ByteArray) (i : Nat) (h : i < zs.length) : txt zs i ∈ zs := by
  simp only [txt, List.getD_eq_getElem?_getD, List.getElem?_eq_getElem h, Option.getD_some]
  exact List.getElem_mem h

theorem one_sl {s : ByteArray} (h : pf s = true) (h1 : s.size = 1) : s = { data := #[47] } := by
  obtain ⟨hs, h47⟩ := (pf_iff s).1 h
  apply ByteArray.ext
  apply Array.ext
  · simpa using h1
  · intro i hi hi2
    have : i = 0 := by
      have : i < 1 := by simpa using hi2
      omega
    subst this
    exact UInt8.toNat_inj.1 h47

theorem size_beq {s : ByteArray} (h : 0 < s.size) : ((s.size : Int) == 0) = false := by
  apply Bool.eq_false_iff.2
  intro e
  have := beq_iff_eq.1 e
  omega

theorem not_one_sl {s : ByteArray} (h : s.size ≠ 1) : (s.toList == [47]) = false := by
  rw [ByteArray.toList_eq]
  apply Bool.eq_false_iff.2
  intro e
  have := congrArg List.length (beq_iff_eq.1 e)
  apply h
  simpa using this

set_option maxHeartbeats 1600000 in
theorem specSplit_any (s : ByteArray) (w : World) (hs : s.size ≤ 1048576) :
    Calls Tryd.prog 4 #[.string s] w fun e w' => ∃ v, e = .returned (.tuple #[v, .int .i64 (spR gdS s).1]) ∧ SOwn w.heap.size w'.heap.size w' v (spR gdS s).2 ∧ Below w.heap.size w w' := by
  by_cases h200 : 200 < s.size
  · have HR : Hid (spR gdS s = (4, [])) := by simp [spR, h200, Hid]
    go_enter Tryd.func4, Tryd.ntmps4
    go_wp2
    go_ret2
    rw [HR.out]
    exact ⟨.slice none 0 0, rfl, SOwn.nil _ _ _, Below.refl _ _⟩
  · by_cases hp : pf s = true
    · obtain ⟨hpos, h47⟩ := (pf_iff s).1 hp
      by_cases h1 : s.size = 1
      · have HR : Hid (spR gdS s = (0, [])) := by simp [spR, h1, hp, Hid]
        obtain rfl := one_sl hp h1
        go_enter Tryd.func4, Tryd.ntmps4
        go_wp2
        go_ret2
        rw [HR.out]
        exact ⟨.slice none 0 0, rfl, SOwn.nil _ _ _, Below.refl _ _⟩
      · have hno := not_one_sl h1
        have hsz : (s.extract 1 s.size).size = s.size - 1 := by rw [ByteArray.size_extract]; omega
        have hpc := cut_pieces _ (s.extract 1 s.size) (Nat.le_refl _)
        have hi47 : ((s[0]'hpos).toNat : Int) = 47 := by omega
        have hz0 : ((s.size : Int) == 0) = false := size_beq hpos
        go_enter Tryd.func4, Tryd.ntmps4
        go_wp2_with (go_at_call 9; refine (l6Cut_any _ _ (by omega)).mono ?_)
        rintro e w1 ⟨v, rfl, hown, hb⟩
        obtain ⟨hlen, hlen1, hpx⟩ := hpc
        have HP : Hid (∀ x ∈ cut (s.extract 1 s.size), x.size ≤ (s.extract 1 s.size).size ∧ ∀ k (h : k < x.size), (x[k]'h).toNat ≠ 47) := hpx
        have HO : Hid (SOwn w.heap.size w1.heap.size w1 v (cut (s.extract 1 s.size))) := hown
        have HB : Hid (Below w.heap.size w w1) := hb
        have HR : Hid (spR gdS s = if nmsC gdS (cut (s.extract 1 s.size)) = 0 then (if 16 < (cut (s.extract 1 s.size)).length then (4, []) else (0, cut (s.extract 1 s.size))) else (nmsC gdS (cut (s.extract 1 s.size)), [])) := by simp [spR, h200, hp, h1, Hid]
        generalize cut (s.extract 1 s.size) = zs at *
        obtain ⟨a, cap, rfl, hc⟩ := hown
        obtain ⟨b, off, rfl, g1, g2, g3, hcell⟩ := hc (by omega)
        clear hc hpx hb g1 g2 g3
        go_wp2
        go_loop [5] (fun i => ∃ j : Nat, j ≤ zs.length ∧ i = .int .i64 j ∧ ∀ i, i < j → nmC gdS (txt zs i) = 0) (fun i => zs.length - (intOf i).toNat)
        case atStart => exact ⟨0, Nat.zero_le _, rfl, fun i hi => by omega⟩
        case round =>
          obtain ⟨j, hj, rfl, hg⟩ := hrel
          by_cases hlt : j < zs.length
          · have hc1 := (hcell j hlt).1
            have hxs := (HP.out _ (txt_mem zs j hlt)).1
            have HG : Hid (∀ i, i < j → nmC gdS (txt zs i) = 0) := hg
            have hi : (j : Int) < (zs.length : Int) := by omega
            clear hcell hg
            by_cases h0 : nmC gdS (txt zs j) = 0
            · go_wp2_with (go_at_call 10; refine (l6NameCode_any _ _ (by omega)).mono ?_; rintro e w' ⟨rfl, rfl⟩; rw [h0])
              go_round
              case rel =>
                refine ⟨j + 1, by omega, by go_num, fun i hi => ?_⟩
                by_cases e : i = j
                · subst e; exact h0
                · exact HG.out i (by omega)
              case measure => simp [intOf]; omega
            · have hb0 : (nmC gdS (txt zs j) != 0) = true := by simpa using h0
              have HC : Hid (nmsC gdS zs = nmC gdS (txt zs j)) := nmsC_bad gdS zs j hlt HG.out h0
              go_wp2_with (go_at_call 10; refine (l6NameCode_any _ _ (by omega)).mono ?_; rintro e w' ⟨rfl, rfl⟩)
              go_ret2
              rw [HR.out, HC.out, if_neg h0]
              exact ⟨.slice none 0 0, rfl, SOwn.nil _ _ _, HB.out⟩
          · have HC : Hid (nmsC gdS zs = 0) := nmsC_good gdS zs fun i hi => hg i (by omega)
            clear hcell hg
            by_cases h16 : 16 < zs.length
            · go_wp2
              go_ret2
              rw [HR.out, HC.out, if_pos rfl, if_pos h16]
              exact ⟨.slice none 0 0, rfl, SOwn.nil _ _ _, HB.out⟩
            · go_wp2
              go_ret2
              rw [HR.out, HC.out, if_pos rfl, if_neg h16]
              exact ⟨.slice (some ⟨b, off, none⟩) zs.length cap, rfl, HO.out, HB.out⟩
    · have HR : Hid (spR gdS s = (12, [])) := by simp [spR, h200, hp, Hid]
      by_cases hpos : 0 < s.size
      · have hi47 : (((s[0]'hpos).toNat : Int) != 47) = true := by
          simp only [bne_iff_ne, ne_eq]
          intro e
          exact hp ((pf_iff s).2 ⟨hpos, by omega⟩)
        have hz0 : ((s.size : Int) == 0) = false := size_beq hpos
        go_enter Tryd.func4, Tryd.ntmps4
        go_wp2
        go_ret2
        rw [HR.out]
        exact ⟨.slice none 0 0, rfl, SOwn.nil _ _ _, Below.refl _ _⟩
      · have h0 : s.size = 0 := by omega
        go_enter Tryd.func4, Tryd.ntmps4
        go_wp2
        go_ret2
        rw [HR.out]
        exact ⟨.slice none 0 0, rfl, SOwn.nil _ _ _, Below.refl _ _⟩

end Go.Proofs.YtccmlgnjojdeeaaDoor

import Derived.Test.YtempdkoflofglaaGreatDoorSS1
import Derived.Laws.RangeString
import Derived.Laws.RangeAny
import Derived.Lib.OthersKept
import Derived.Lib.SplitLaws
namespace Go.Proofs.YtempdkoflofglaaGreatDoor
open Go.RowKit

/-- the text that parts names -/
def sl : ByteArray := { data := #[32] }
/-- a text cut at every space -/
def cut (s : ByteArray) : List ByteArray := Lib.splitB sl 0 (Lib.countB s sl) s

theorem at_list (s : ByteArray) (k : Nat) (h : k < s.size) : s.data.toList[k]? = some (s[k]'h) := by
  rw [show s[k]'h = s.data[k]'h from rfl, Array.getElem?_toList]
  exact Array.getElem?_eq_getElem h

theorem idx_miss (s : ByteArray) (H : ∀ k (h : k < s.size), (s[k]'h).toNat ≠ 32) : Lib.indexB s sl = -1 := by
  show Lib.index s.data.toList [32] = -1
  rw [Lib.index_one]
  by_cases h : Lib.indexByte s.data.toList 32 = -1
  · exact h
  · have hge := Lib.indexByte_ge s.data.toList 32
    obtain ⟨o, ho⟩ : ∃ o : Nat, Lib.indexByte s.data.toList 32 = o := ⟨(Lib.indexByte s.data.toList 32).toNat, by omega⟩
    have h1 := (Lib.indexByte_some ho).1
    have hlt : o < s.size := by
      by_cases hh : o < s.size
      · exact hh
      · rw [List.getElem?_eq_none (by simpa using Nat.le_of_not_lt hh)] at h1; cases h1
    rw [at_list s o hlt] at h1
    exact absurd (by have := Option.some.inj h1; rw [this]; rfl) (H o hlt)

theorem idx_hit (s : ByteArray) (i : Nat) (hi : i < s.size) (h32 : (s[i]'hi).toNat = 32) (H : ∀ k (h : k < s.size), k < i → (s[k]'h).toNat ≠ 32) : Lib.indexB s sl = i := by
  show Lib.index s.data.toList [32] = i
  rw [Lib.index_one]
  have e32 : s[i]'hi = 32 := UInt8.toNat_inj.1 h32
  have hne : Lib.indexByte s.data.toList 32 ≠ -1 := fun h => Lib.indexByte_none h i (by rw [at_list s i hi, e32])
  have hge := Lib.indexByte_ge s.data.toList 32
  obtain ⟨o, ho⟩ : ∃ o : Nat, Lib.indexByte s.data.toList 32 = o := ⟨(Lib.indexByte s.data.toList 32).toNat, by omega⟩
  have h1 := Lib.indexByte_some ho
  rw [ho]
  have hno : ¬ o < i := by
    intro hlt
    have hos : o < s.size := by omega
    have := h1.1
    rw [at_list s o hos] at this
    exact H o hos hlt (by rw [Option.some.inj this]; rfl)
  have hnl : ¬ i < o := fun hlt => h1.2 i hlt (by rw [at_list s i hi, e32])
  have : o = i := by omega
  rw [this]

theorem cut_miss (s : ByteArray) (H : ∀ k (h : k < s.size), (s[k]'h).toNat ≠ 32) : cut s = [s] := by
  unfold cut
  exact Lib.splitB_miss _ _ _ _ (idx_miss s H)

theorem cut_hit (s : ByteArray) (i : Nat) (hi : i < s.size) (h32 : (s[i]'hi).toNat = 32) (H : ∀ k (h : k < s.size), k < i → (s[k]'h).toNat ≠ 32) :
    cut s = s.extract 0 i :: cut (s.extract (i + 1) s.size) := by
  have hx := idx_hit s i hi h32 H
  have hc := Lib.countB_hit s sl i (by decide) hx
  unfold cut
  rw [hc, Nat.add_comm 1, Lib.splitB_hit sl 0 _ s i hx]
  rfl

theorem ext_get (s : ByteArray) (a b k : Nat) (hb : b ≤ s.size) (h : k < (s.extract a b).size) : ((s.extract a b)[k]'h) = s[a + k]'(by rw [ByteArray.size_extract] at h; omega) := by
  simp [ByteArray.getElem_extract]

/-- the first space of a text, if it has one -/
theorem first_sp (s : ByteArray) : (∀ k (h : k < s.size), (s[k]'h).toNat ≠ 32) ∨ ∃ i, ∃ hi : i < s.size, (s[i]'hi).toNat = 32 ∧ ∀ k (h : k < s.size), k < i → (s[k]'h).toNat ≠ 32 := by
  have aux : ∀ n, n ≤ s.size → (∀ k (h : k < s.size), k < n → (s[k]'h).toNat ≠ 32) ∨ ∃ i, ∃ hi : i < s.size, (s[i]'hi).toNat = 32 ∧ ∀ k (h : k < s.size), k < i → (s[k]'h).toNat ≠ 32 := by
    intro n
    induction n with
    | zero => intro _; exact .inl fun k _ hk => by omega
    | succ n ih =>
      intro hn
      rcases ih (by omega) with h | h
      · by_cases h32 : (s[n]'(by omega)).toNat = 32
        · exact .inr ⟨n, by omega, h32, h⟩
        · refine .inl fun k hk hk2 => ?_
          by_cases e : k = n
          · subst e; exact h32
          · exact h k hk (by omega)
      · exact .inr h
  rcases aux s.size (Nat.le_refl _) with h | h
  · exact .inl fun k hk => h k hk hk
  · exact .inr h

/-- what a cut's pieces are: no space in them, none longer than the text, at most one more than the text is long -/
theorem cut_pieces : ∀ (n : Nat) (s : ByteArray), s.size ≤ n → (cut s).length ≤ s.size + 1 ∧ 1 ≤ (cut s).length ∧ ∀ x ∈ cut s, x.size ≤ s.size ∧ ∀ k (h : k < x.size), (x[k]'h).toNat ≠ 32 := by
  intro n
  induction n with
  | zero =>
    intro s hs
    rw [cut_miss s fun k h => by omega]
    refine ⟨by simp, by simp, fun x hx => ?_⟩
    rw [List.mem_singleton] at hx
    subst hx
    exact ⟨Nat.le_refl _, fun k h => by omega⟩
  | succ n ih =>
    intro s hs
    rcases first_sp s with H | ⟨i, hi, h32, H⟩
    · rw [cut_miss s H]
      refine ⟨by simp, by simp, fun x hx => ?_⟩
      rw [List.mem_singleton] at hx
      subst hx
      exact ⟨Nat.le_refl _, H⟩
    · rw [cut_hit s i hi h32 H]
      have hsz : (s.extract (i + 1) s.size).size = s.size - (i + 1) := by rw [ByteArray.size_extract]; omega
      obtain ⟨h1, _, h3⟩ := ih (s.extract (i + 1) s.size) (by omega)
      refine ⟨by rw [List.length_cons]; omega, by simp, fun x hx => ?_⟩
      rcases List.mem_cons.1 hx with rfl | hx
      · have hs0 : (s.extract 0 i).size = i := by rw [ByteArray.size_extract]; omega
        refine ⟨by omega, fun k h => ?_⟩
        rw [ext_get s 0 i k (by omega) h]
        have := H (0 + k) (by omega) (by omega)
        exact this
      · have := h3 x hx
        exact ⟨by omega, this.2⟩

theorem ext_ext (s : ByteArray) (a i : Nat) (h1 : a ≤ i) (h2 : i < s.size) : (s.extract a s.size).extract 0 (i - a) = s.extract a i ∧ (s.extract a s.size).extract (i - a + 1) (s.extract a s.size).size = s.extract (i + 1) s.size := by
  constructor
  · rw [ByteArray.extract_extract]
    congr 1 <;> omega
  · rw [ByteArray.extract_extract, ByteArray.size_extract]
    congr 1 <;> omega

theorem ext_all (s : ByteArray) : s.extract 0 s.size = s := by simp

/-- one step of a cut, seen in the whole text -/
theorem cut_at (s : ByteArray) (a i : Nat) (h1 : a ≤ i) (h2 : i < s.size) (h32 : (s[i]'h2).toNat = 32) (H : ∀ k (h : k < s.size), a ≤ k → k < i → (s[k]'h).toNat ≠ 32) :
    cut (s.extract a s.size) = s.extract a i :: cut (s.extract (i + 1) s.size) := by
  have hsz : (s.extract a s.size).size = s.size - a := by rw [ByteArray.size_extract]; omega
  rw [cut_hit (s.extract a s.size) (i - a) (by omega) ?_ ?_, (ext_ext s a i h1 h2).1, (ext_ext s a i h1 h2).2]
  · rw [ext_get s a s.size (i - a) (Nat.le_refl _) (by omega)]
    have e : a + (i - a) = i := by omega
    simp only [e]
    exact h32
  · intro k h hk
    rw [ext_get s a s.size k (Nat.le_refl _) h]
    exact H (a + k) (by omega) (by omega) (by omega)

theorem cut_last (s : ByteArray) (a : Nat) (H : ∀ k (h : k < s.size), a ≤ k → (s[k]'h).toNat ≠ 32) : cut (s.extract a s.size) = [s.extract a s.size] := by
  refine cut_miss _ fun k h => ?_
  rw [ext_get s a s.size k (Nat.le_refl _) h]
  exact H (a + k) (by rw [ByteArray.size_extract] at h; omega) (by omega)

end Go.Proofs.YtempdkoflofglaaGreatDoor

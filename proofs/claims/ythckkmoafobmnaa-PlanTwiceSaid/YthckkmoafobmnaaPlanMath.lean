/- Plain facts about columns: which are read, which are written. Nothing of the program stands here. -/
import Derived.Test.YthckkmoafobmnaaXorAlg
namespace Go.Proofs.Ythckkmoafobmnaa
open Go.RowKit

/-- the columns from 0 on, so many, but one -/
def othersN (m c : Nat) : List Nat := (List.range m).filter (· ≠ c)
def fetchR (N col : Nat) (out : Int) : List Nat := if out = col then othersN N col else [col]
def fetchB (N col : Nat) (out : Int) : List Nat := if out = -1 then [(col + 1) % N] else []
def updR (N col : Nat) (out : Int) : List Nat := if out = (N : Int) - 1 then [] else if out = col then othersN (N - 1) col else [col, N - 1]
def updW (N col : Nat) (out : Int) : List Nat := if out = (N : Int) - 1 then [col] else if out = col then [N - 1] else [col, N - 1]
/-- right: columns and one that is out -/
def ColsOk (N col : Nat) (out : Int) : Prop := 3 ≤ N ∧ N ≤ 6 ∧ col < N - 1 ∧ -1 ≤ out ∧ out < N

theorem othersN_mem {m c x : Nat} : x ∈ othersN m c ↔ x < m ∧ x ≠ c := by simp [othersN]
theorem othersN_split {m c : Nat} (h : c < m) : othersN m c = List.range c ++ List.range' (c + 1) (m - c - 1) := by
  obtain ⟨k, rfl⟩ : ∃ k, m = c + 1 + k := ⟨m - c - 1, by omega⟩
  unfold othersN
  rw [List.range_eq_range', ← List.range'_append_1 (s := 0) (m := c + 1) (n := k), List.filter_append, ← List.range'_append_1 (s := 0) (m := c) (n := 1), List.filter_append]
  have e1 : (List.range' 0 c).filter (· ≠ c) = List.range' 0 c := List.filter_eq_self.2 fun x hx => by
    have := List.mem_range'_1.1 hx
    simp; omega
  have e2 : (List.range' (0 + (c + 1)) k).filter (· ≠ c) = List.range' (0 + (c + 1)) k := List.filter_eq_self.2 fun x hx => by
    have := List.mem_range'_1.1 hx
    simp; omega
  rw [e1, e2, List.range_eq_range', show c + 1 + k - c - 1 = k by omega]
  simp
theorem othersN_length {m c : Nat} (h : c < m) : (othersN m c).length = m - 1 := by
  rw [othersN_split h]
  simp
  omega
theorem fetchR_len {N col : Nat} {out : Int} (h : ColsOk N col out) : 1 ≤ (fetchR N col out).length ∧ (fetchR N col out).length < N := by
  obtain ⟨h1, h2, h3, h4, h5⟩ := h
  unfold fetchR
  split
  · rw [othersN_length (by omega)]
    omega
  · simp
    omega
theorem updR_len {N col : Nat} {out : Int} (h : ColsOk N col out) : (updR N col out).length < N := by
  obtain ⟨h1, h2, h3, h4, h5⟩ := h
  unfold updR
  split
  · simp; omega
  · split
    · rw [othersN_length (by omega)]
      omega
    · simp
      omega
theorem fetchB_len (N col : Nat) (out : Int) : (fetchB N col out).length = if out = -1 then 1 else 0 := by
  unfold fetchB
  split <;> rfl
theorem updW_len (N col : Nat) (out : Int) : 1 ≤ (updW N col out).length ∧ (updW N col out).length ≤ 2 := by
  unfold updW
  split
  · simp
  · split <;> simp
theorem updW_parity {N col : Nat} {out : Int} (h : ColsOk N col out) : (N - 1 ∈ updW N col out) ↔ out ≠ (N : Int) - 1 := by
  obtain ⟨h1, h2, h3, h4, h5⟩ := h
  unfold updW
  split
  · simp; omega
  · split <;> simp_all
theorem updW_own {N col : Nat} {out : Int} (h : ColsOk N col out) : (col ∈ updW N col out) ↔ out ≠ (col : Int) := by
  obtain ⟨h1, h2, h3, h4, h5⟩ := h
  unfold updW
  split
  · simp; omega
  · split
    · simp_all; omega
    · simp_all
theorem fetchR_out {N col : Nat} {out : Int} (h : ColsOk N col out) : ∀ x ∈ fetchR N col out, (x : Int) ≠ out ∧ x < N := by
  obtain ⟨h1, h2, h3, h4, h5⟩ := h
  intro x hx
  unfold fetchR at hx
  split at hx
  · have := othersN_mem.1 hx
    omega
  · simp at hx
    omega
theorem fetchB_out {N col : Nat} {out : Int} (h : ColsOk N col out) : ∀ x ∈ fetchB N col out, x ≠ col ∧ (x : Int) ≠ out := by
  obtain ⟨h1, h2, h3, h4, h5⟩ := h
  intro x hx
  unfold fetchB at hx
  split at hx
  · simp at hx
    subst hx
    have e : (col + 1) % N = col + 1 := Nat.mod_eq_of_lt (by omega)
    rw [e]
    omega
  · simp at hx
theorem updR_out {N col : Nat} {out : Int} (h : ColsOk N col out) : ∀ x ∈ updR N col out, (x : Int) ≠ out ∧ x < N := by
  obtain ⟨h1, h2, h3, h4, h5⟩ := h
  intro x hx
  unfold updR at hx
  split at hx
  · simp at hx
  · split at hx
    · have := othersN_mem.1 hx
      omega
    · simp at hx
      omega
theorem updW_out {N col : Nat} {out : Int} (h : ColsOk N col out) : ∀ x ∈ updW N col out, (x : Int) ≠ out ∧ x < N := by
  obtain ⟨h1, h2, h3, h4, h5⟩ := h
  intro x hx
  unfold updW at hx
  split at hx
  · simp at hx
    omega
  · split at hx
    · simp at hx
      omega
    · simp at hx
      omega

/-- the texts of some columns -/
def namedL {α : Type} [Inhabited α] (l : List α) (r : List Nat) : List α := r.map fun i => l.getD i default
theorem namedL_others {α : Type} [Inhabited α] (l : List α) (m c : Nat) (hm : m ≤ l.length) (hc : c < m) : namedL l (othersN m c) = (l.take m).take c ++ (l.take m).drop (c + 1) := by
  rw [othersN_split hc, namedL, List.map_append]
  congr 1
  · apply List.ext_getElem
    · simp; omega
    · intro j h1 h2
      simp at h1 h2
      simp [List.getElem?_eq_getElem (show j < l.length by omega)]
  · apply List.ext_getElem
    · simp; omega
    · intro j h1 h2
      simp at h1 h2
      simp [List.getElem?_eq_getElem (show c + 1 + j < l.length by omega)]
theorem namedL_one {α : Type} [Inhabited α] (l : List α) (c : Nat) (hc : c < l.length) : namedL l [c] = [l[c]] := by
  simp [namedL, List.getElem?_eq_getElem hc]

/-- of a stripe that is nought: what the others tell is the one -/
theorem sumL_other {L : Nat} {l : List (List UInt8)} (h : AllLen L l) (h0 : sumL L l = noughts L) (k : Nat) (hk : k < l.length) : sumL L (l.take k ++ l.drop (k + 1)) = l[k] := by
  have h1 := sumL_miss h k hk
  have h2 : AllLen L (l.take k ++ l.drop (k + 1)) := AllLen.append (fun s hs => h s (List.mem_of_mem_take hs)) (fun s hs => h s (List.mem_of_mem_drop hs))
  rw [h0, sumL_cons (by simp) h2] at h1
  have h3 := zero_xorL (sumL L (l.take k ++ l.drop (k + 1)))
  rw [sumL_len h2] at h3
  rw [← h1]
  exact h3.symm
/-- what is fetched of a stripe that is nought is the block -/
theorem fetch_is {N col : Nat} {out : Int} (h : ColsOk N col out) {l : List (List UInt8)} (hl : AllLen 16 l) (hn : l.length = N) (h0 : sumL 16 l = noughts 16) : sumL 16 (namedL l (fetchR N col out)) = l.getD col [] := by
  obtain ⟨h1, h2, h3, h4, h5⟩ := h
  have hc : col < l.length := by omega
  have e : l.getD col [] = l[col] := by simp [List.getElem?_eq_getElem hc]
  rw [e]
  unfold fetchR
  split
  · have e2 : l.take N = l := List.take_of_length_le (by omega)
    rw [namedL_others l N col (by omega) (by omega), e2]
    exact sumL_other hl h0 col hc
  · rw [namedL_one l col hc]
    exact sumL_one (hl _ (List.getElem_mem hc))
end Go.Proofs.Ythckkmoafobmnaa

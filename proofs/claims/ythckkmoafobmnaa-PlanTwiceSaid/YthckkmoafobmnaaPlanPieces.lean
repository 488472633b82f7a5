/- Plain facts about a run of blocks, piece by piece. -/
import Derived.Test.YthckkmoafobmnaaPlanAwake
namespace Go.Proofs.Ythckkmoafobmnaa
open Go.RowKit Go.ChangeShapes Go.WideShapes

def sumC (l : List (Nat × Nat × Nat)) : Nat := (l.map fun p => p.2.2).sum
theorem sumC_snoc {l : List (Nat × Nat × Nat)} {k : Nat} {p : Nat × Nat × Nat} (h : l[k]? = some p) : sumC (l.take (k + 1)) = sumC (l.take k) + p.2.2 := by
  rw [List.take_add_one, h]
  simp [sumC]
theorem sumC_take (l : List (Nat × Nat × Nat)) (k : Nat) : sumC (l.take k) ≤ sumC l := by
  conv => rhs; rw [← List.take_append_drop k l]
  unfold sumC
  rw [List.map_append, List.sum_append]
  omega
theorem pieces_zero (k m a : Nat) : pieces k m a 0 = [] := by cases k <;> rfl
theorem pieces_cons (k m a c : Nat) (hc : c ≠ 0) : pieces (k + 1) m a c = (a / m, a % m, min c (m - a % m)) :: pieces k m (a + min c (m - a % m)) (c - min c (m - a % m)) := by
  rw [pieces, if_neg hc]
theorem pieces_sum (k m a c : Nat) (hm : 0 < m) (hk : c ≤ k) : sumC (pieces k m a c) = c := by
  induction k generalizing a c with
  | zero =>
    obtain rfl : c = 0 := by omega
    rfl
  | succ k ih =>
    by_cases hc : c = 0
    · subst hc
      rw [pieces_zero]
      rfl
    · have h1 := Nat.mod_lt a hm
      rw [pieces_cons k m a c hc]
      show min c (m - a % m) + sumC (pieces k m (a + min c (m - a % m)) (c - min c (m - a % m))) = c
      rw [ih _ _ (by omega)]
      omega
theorem pieces_at (k m a c : Nat) (hm : 0 < m) (hk : c ≤ k) : ∀ i p, (pieces k m a c)[i]? = some p → 1 ≤ p.2.2 ∧ p.2.2 ≤ c ∧ p.2.1 + p.2.2 ≤ m ∧ p.1 * m + p.2.1 = a + sumC ((pieces k m a c).take i) := by
  induction k generalizing a c with
  | zero => intro i p h; simp [pieces] at h
  | succ k ih =>
    intro i p h
    by_cases hc : c = 0
    · subst hc
      rw [pieces_zero] at h
      simp at h
    · have h1 := Nat.mod_lt a hm
      rw [pieces_cons k m a c hc] at h ⊢
      cases i with
      | zero =>
        simp at h
        subst h
        have h2 := Nat.div_add_mod a m
        refine ⟨?_, ?_, ?_, ?_⟩
        · simp only; omega
        · simp only; omega
        · simp only; omega
        · simp only [List.take_zero]
          show a / m * m + a % m = a + 0
          rw [Nat.mul_comm]
          omega
      | succ i =>
        simp at h
        obtain ⟨e1, e2, e3, e4⟩ := ih _ _ (by omega) i p h
        refine ⟨e1, by omega, e3, ?_⟩
        rw [e4, List.take_succ_cons]
        show _ = a + (min c (m - a % m) + sumC _)
        omega
theorem pieces_next (k m a c : Nat) (hm : 0 < m) (hk : c ≤ k) : ∀ i p q, (pieces k m a c)[i]? = some p → (pieces k m a c)[i + 1]? = some q → q.1 = p.1 + 1 := by
  induction k generalizing a c with
  | zero => intro i p q h; simp [pieces] at h
  | succ k ih =>
    intro i p q h hq
    by_cases hc : c = 0
    · subst hc
      rw [pieces_zero] at h
      simp at h
    · have h1 := Nat.mod_lt a hm
      rw [pieces_cons k m a c hc] at h hq
      cases i with
      | zero =>
        simp at h hq
        subst h
        by_cases hr : c - min c (m - a % m) = 0
        · rw [hr, pieces_zero] at hq
          simp at hq
        · obtain ⟨k', rfl⟩ : ∃ k', k = k' + 1 := ⟨k - 1, by omega⟩
          rw [pieces_cons k' m _ _ hr] at hq
          simp at hq
          subst hq
          have e : min c (m - a % m) = m - a % m := by omega
          have h2 := Nat.div_add_mod a m
          have e2 : a + min c (m - a % m) = m * (a / m + 1) := by
            rw [e, Nat.mul_add]
            omega
          simp only
          rw [e2, Nat.mul_div_cancel_left _ hm]
      | succ i =>
        simp at h hq
        exact ih _ _ (by omega) i p q h hq
theorem pieces_len (k m a c : Nat) : (pieces k m a c).length ≤ k := by
  induction k generalizing a c with
  | zero => exact Nat.le_refl _
  | succ k ih =>
    by_cases hc : c = 0
    · subst hc
      rw [pieces_zero]
      exact Nat.zero_le _
    · rw [pieces_cons k m a c hc]
      have := ih (a + min c (m - a % m)) (c - min c (m - a % m))
      simp only [List.length_cons]
      omega
theorem pieceCells_at (l : List (Nat × Nat × Nat)) (k : Nat) (p : Nat × Nat × Nat) (h : l[k]? = some p) : (pieceCells l)[k * 3]? = some (natV p.1) ∧ (pieceCells l)[k * 3 + 1]? = some (natV p.2.1) ∧ (pieceCells l)[k * 3 + 2]? = some (natV p.2.2) := by
  induction l generalizing k with
  | nil => simp at h
  | cons q l ih =>
    cases k with
    | zero =>
      simp at h
      subst h
      exact ⟨rfl, rfl, rfl⟩
    | succ k =>
      simp at h
      have := ih k h
      rw [show (k + 1) * 3 = k * 3 + 1 + 1 + 1 by omega]
      exact this

theorem ref_block_is (M S st c b : Nat) (c' : Int) (hcc : (c : Int) = c') (w : World) (h3 : 3 ≤ M) (h6 : M ≤ 6) (hs : 1 ≤ S) (hs8 : S ≤ 8) (hst : st < S) (hc : c < M - 1) (hb : st * (M - 1) + c = b) :
    Calls Try.prog 26 #[.agg #[.int .i64 M, .int .i64 S], .int .i64 st, .int .i64 c'] w fun e w' => e = .returned (.tuple #[.int .i64 (b : Int), .bool true]) ∧ Below w.heap.size w w' := by
  subst hcc
  have h := ref05_block (M : Int) (S : Int) st c w
  have hr : rightB (M : Int) (S : Int) = true := (right_iff _ _).2 ⟨by omega, by omega, by omega, by omega⟩
  have hn := node_is (N := (M : Int)) (S := (S : Int)) (st := (st : Int)) (c := (c : Int)) ⟨hr, by omega, by omega, by omega, by omega⟩
  have e1 : isB (M : Int) (S : Int) st c = true := by
    unfold isB
    rw [hn.1]
    have hne : decide ((c : Int) = (M : Int) - 1) = false := decide_eq_false (by omega)
    rw [hne]
    simp [hn.2.1]
  have e2 : numB (M : Int) (S : Int) st c = (b : Int) := by
    unfold numB
    rw [if_pos e1, ← hb]
    obtain ⟨m, hm⟩ : ∃ m, M = m + 1 := ⟨M - 1, by omega⟩
    subst hm
    simp
  rw [e1, e2] at h
  exact h
end Go.Proofs.Ythckkmoafobmnaa

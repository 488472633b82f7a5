/- The algebra of texts put together: they make a group in which each is its own inverse. Nothing of the program stands here. -/
import Derived.Test.YthckkmoafobmnaaXorMath
namespace Go.Proofs.Ythckkmoafobmnaa
open Go.RowKit

abbrev noughts (n : Nat) : List UInt8 := List.replicate n 0
theorem xorL_assoc (a b c : List UInt8) : xorL (xorL a b) c = xorL a (xorL b c) := by
  unfold xorL
  apply List.ext_getElem
  · simp [Nat.min_assoc]
  · intro j h1 h2
    simp [UInt8.xor_assoc]
theorem xorL_self (a : List UInt8) : xorL a a = noughts a.length := by
  unfold xorL
  apply List.ext_getElem
  · simp
  · intro j h1 h2
    simp
theorem xorL_zero (a : List UInt8) : xorL a (noughts a.length) = a := by
  unfold xorL
  apply List.ext_getElem
  · simp
  · intro j h1 h2
    simp
theorem zero_xorL (a : List UInt8) : xorL (noughts a.length) a = a := by rw [xorL_comm, xorL_zero]
theorem xorL_len {L : Nat} {a b : List UInt8} (ha : a.length = L) (hb : b.length = L) : (xorL a b).length = L := by rw [xorL_length a b (by rw [ha, hb]), ha]
theorem xorL_cancel {L : Nat} {a b : List UInt8} (ha : a.length = L) (hb : b.length = L) : xorL (xorL a b) b = a := by
  rw [xorL_assoc, xorL_self, hb, ← ha, xorL_zero]

/-- all of a list of texts of length L -/
def sumL (L : Nat) (l : List (List UInt8)) : List UInt8 := l.foldl xorL (noughts L)
def AllLen (L : Nat) (l : List (List UInt8)) : Prop := ∀ s ∈ l, s.length = L
theorem AllLen.append {L : Nat} {x y : List (List UInt8)} (hx : AllLen L x) (hy : AllLen L y) : AllLen L (x ++ y) := fun s hs => by
  rcases List.mem_append.1 hs with h | h
  · exact hx s h
  · exact hy s h
theorem sumL_len {L : Nat} {l : List (List UInt8)} (h : AllLen L l) : (sumL L l).length = L := by
  unfold sumL
  rw [fold_length _ _ (fun s hs => by rw [h s hs]; simp)]
  simp
theorem foldl_xor {L : Nat} (a : List UInt8) (l : List (List UInt8)) (ha : a.length = L) (h : AllLen L l) : l.foldl xorL a = xorL a (sumL L l) := by
  induction l generalizing a with
  | nil => simp only [List.foldl_nil, sumL]; rw [← ha, xorL_zero]
  | cons s l ih =>
    have hs := h s (by simp)
    have hl : AllLen L l := fun x hx => h x (by simp [hx])
    have e : sumL L (s :: l) = xorL s (sumL L l) := by
      unfold sumL
      rw [List.foldl_cons, ih _ (by simp [xorL, hs]) hl]
      rw [← hs, zero_xorL]
      rfl
    rw [List.foldl_cons, ih _ (xorL_len ha hs) hl, e, xorL_assoc]
theorem sumL_nil (L : Nat) : sumL L [] = noughts L := rfl
theorem sumL_cons {L : Nat} {s : List UInt8} {l : List (List UInt8)} (hs : s.length = L) (h : AllLen L l) : sumL L (s :: l) = xorL s (sumL L l) := by
  unfold sumL
  rw [List.foldl_cons, foldl_xor (L := L) _ _ (by rw [xorL_len (L := L) (by simp) hs]) h, ← hs, zero_xorL]
  rfl
theorem sumL_append {L : Nat} {x y : List (List UInt8)} (hx : AllLen L x) (hy : AllLen L y) : sumL L (x ++ y) = xorL (sumL L x) (sumL L y) := by
  unfold sumL
  rw [List.foldl_append]
  exact foldl_xor (L := L) _ _ (sumL_len hx) hy
theorem sumL_one {L : Nat} {s : List UInt8} (hs : s.length = L) : sumL L [s] = s := by
  rw [sumL_cons hs (by intro x hx; cases hx), sumL_nil, ← hs, xorL_zero]
/-- what the calls answer -/
theorem sumOf_all {L : Nat} {l : List (List UInt8)} (h : AllLen L l) (hne : l ≠ []) : sumOf l = some (sumL L l) := by
  cases l with
  | nil => exact absurd rfl hne
  | cons a r =>
    have ha := h a (by simp)
    have hr : AllLen L r := fun x hx => h x (by simp [hx])
    simp only [sumOf]
    rw [if_pos (List.all_eq_true.2 fun b hb => by simp [hr b hb, ha]), foldl_xor a r ha hr, sumL_cons ha hr]

/-- the order does not matter -/
theorem sumL_turn {L : Nat} {l : List (List UInt8)} (h : AllLen L l) (k : Nat) : sumL L (l.drop k ++ l.take k) = sumL L l := by
  have h1 : AllLen L (l.take k) := fun s hs => h s (List.mem_of_mem_take hs)
  have h2 : AllLen L (l.drop k) := fun s hs => h s (List.mem_of_mem_drop hs)
  conv => rhs; rw [← List.take_append_drop k l]
  rw [sumL_append h2 h1, sumL_append h1 h2, xorL_comm]
/-- a text twice is as none -/
theorem sumL_twice {L : Nat} {l : List (List UInt8)} (h : AllLen L l) {s : List UInt8} (hs : s.length = L) : sumL L (l ++ [s, s]) = sumL L l := by
  have h2 : AllLen L [s, s] := by intro x hx; simp at hx; rw [hx]; exact hs
  rw [sumL_append h h2, sumL_cons hs (by intro x hx; simp at hx; rw [hx]; exact hs), sumL_one hs, xorL_self, hs]
  have := xorL_zero (sumL L l)
  rwa [sumL_len h] at this
/-- texts and their parity are nought -/
theorem sumL_parity {L : Nat} {l : List (List UInt8)} (h : AllLen L l) : sumL L (l ++ [sumL L l]) = noughts L := by
  have hl := sumL_len h
  rw [sumL_append h (by intro x hx; simp at hx; rw [hx]; exact hl), sumL_one hl, xorL_self, hl]
theorem split_at {α : Type} (l : List α) (k : Nat) (hk : k < l.length) : l = l.take k ++ (l[k] :: l.drop (k + 1)) := by
  rw [← List.drop_eq_getElem_cons hk, List.take_append_drop]
/-- the parity and all texts but one are that one -/
theorem sumL_miss {L : Nat} {l : List (List UInt8)} (h : AllLen L l) (k : Nat) (hk : k < l.length) : sumL L (sumL L l :: (l.take k ++ l.drop (k + 1))) = l[k] := by
  have h1 : AllLen L (l.take k) := fun s hs => h s (List.mem_of_mem_take hs)
  have h2 : AllLen L (l.drop (k + 1)) := fun s hs => h s (List.mem_of_mem_drop hs)
  have hk' : (l[k]).length = L := h _ (List.getElem_mem hk)
  have e : sumL L l = xorL (sumL L (l.take k)) (xorL l[k] (sumL L (l.drop (k + 1)))) := by
    conv => lhs; rw [split_at l k hk]
    rw [sumL_append h1 (by intro x hx; rcases List.mem_cons.1 hx with r | r; exact r ▸ hk'; exact h2 x r), sumL_cons hk' h2]
  have hA := sumL_len h1
  have hB := sumL_len h2
  rw [sumL_cons (sumL_len h) (h1.append h2), sumL_append h1 h2, e]
  generalize sumL L (l.take k) = A at *
  generalize sumL L (l.drop (k + 1)) = B at *
  generalize l[k] = m at *
  have hmB := xorL_len hk' hB
  rw [← xorL_assoc, xorL_comm A (xorL m B), xorL_cancel hmB hA, xorL_cancel hk' hB]
/-- one text is another one -/
theorem sumL_set {L : Nat} {l : List (List UInt8)} (h : AllLen L l) (k : Nat) (hk : k < l.length) {n : List UInt8} (hn : n.length = L) : sumL L (l.set k n) = xorL (xorL (sumL L l) l[k]) n := by
  have h1 : AllLen L (l.take k) := fun s hs => h s (List.mem_of_mem_take hs)
  have h2 : AllLen L (l.drop (k + 1)) := fun s hs => h s (List.mem_of_mem_drop hs)
  have hk' : (l[k]).length = L := h _ (List.getElem_mem hk)
  have e : sumL L l = xorL (sumL L (l.take k)) (xorL l[k] (sumL L (l.drop (k + 1)))) := by
    conv => lhs; rw [split_at l k hk]
    rw [sumL_append h1 (by intro x hx; rcases List.mem_cons.1 hx with r | r; exact r ▸ hk'; exact h2 x r), sumL_cons hk' h2]
  have e2 : sumL L (l.set k n) = xorL (sumL L (l.take k)) (xorL n (sumL L (l.drop (k + 1)))) := by
    rw [List.set_eq_take_append_cons_drop, if_pos hk, sumL_append h1 (by intro x hx; rcases List.mem_cons.1 hx with r | r; exact r ▸ hn; exact h2 x r), sumL_cons hn h2]
  have hA := sumL_len h1
  have hB := sumL_len h2
  rw [e, e2]
  generalize sumL L (l.take k) = A at *
  generalize sumL L (l.drop (k + 1)) = B at *
  generalize l[k] = m at *
  have : xorL (xorL A (xorL m B)) m = xorL A B := by
    rw [xorL_assoc, xorL_comm m B, xorL_cancel hB hk']
  rw [this, xorL_assoc, xorL_comm B n]
/-- cut anywhere -/
theorem xorL_take (a b : List UInt8) (c : Nat) : (xorL a b).take c = xorL (a.take c) (b.take c) := by unfold xorL; rw [List.take_zipWith]
theorem xorL_drop (a b : List UInt8) (c : Nat) : (xorL a b).drop c = xorL (a.drop c) (b.drop c) := by unfold xorL; rw [List.drop_zipWith]
theorem sumL_take {L c : Nat} {l : List (List UInt8)} (h : AllLen L l) (hc : c ≤ L) : (sumL L l).take c = sumL c (l.map (·.take c)) ∧ (sumL L l).drop c = sumL (L - c) (l.map (·.drop c)) := by
  induction l with
  | nil => simp [sumL, Nat.min_eq_left hc]
  | cons s l ih =>
    have hs := h s (by simp)
    have hl : AllLen L l := fun x hx => h x (by simp [hx])
    have h1 : AllLen c (l.map (·.take c)) := by intro x hx; obtain ⟨y, hy, rfl⟩ := List.mem_map.1 hx; simp [hl y hy]; omega
    have h2 : AllLen (L - c) (l.map (·.drop c)) := by intro x hx; obtain ⟨y, hy, rfl⟩ := List.mem_map.1 hx; simp [hl y hy]
    rw [List.map_cons, List.map_cons, sumL_cons hs hl, sumL_cons (by simp [hs]; omega) h1, sumL_cons (by simp [hs]) h2, xorL_take, xorL_drop, (ih hl).1, (ih hl).2]
    exact ⟨rfl, rfl⟩
end Go.Proofs.Ythckkmoafobmnaa

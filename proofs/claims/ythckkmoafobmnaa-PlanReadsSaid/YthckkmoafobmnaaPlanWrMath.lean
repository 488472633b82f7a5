/- Plain facts: what a stripe is behind a write. Nothing of the program stands here. -/
import Derived.Test.YthckkmoafobmnaaPlanRow
namespace Go.Proofs.Ythckkmoafobmnaa
open Go.RowKit Go.ChangeShapes Go.WideShapes

/-- texts, some of which are other ones -/
def setL (L : List (List UInt8)) : List Nat → List (List UInt8) → List (List UInt8)
  | [], _ => L
  | _, [] => L
  | u :: us, s :: ss => setL (L.set u s) us ss
theorem sum_split {l : List (List UInt8)} (h : AllLen 16 l) (k : Nat) (hk : k < l.length) : sumL 16 l = xorL l[k] (sumL 16 (l.take k ++ l.drop (k + 1))) := by
  have h1 : AllLen 16 (l.take k) := fun s hs => h s (List.mem_of_mem_take hs)
  have h2 : AllLen 16 (l.drop (k + 1)) := fun s hs => h s (List.mem_of_mem_drop hs)
  have hk' : (l[k]).length = 16 := h _ (List.getElem_mem hk)
  have e : sumL 16 l = xorL (sumL 16 (l.take k)) (xorL l[k] (sumL 16 (l.drop (k + 1)))) := by
    conv => lhs; rw [split_at l k hk]
    rw [sumL_append h1 (by intro x hx; rcases List.mem_cons.1 hx with r | r; exact r ▸ hk'; exact h2 x r), sumL_cons hk' h2]
  rw [e, sumL_append h1 h2, ← xorL_assoc, xorL_comm (sumL 16 (l.take k)) l[k], xorL_assoc]
theorem allLen_set {l : List (List UInt8)} (h : AllLen 16 l) (k : Nat) {d : List UInt8} (hd : d.length = 16) : AllLen 16 (l.set k d) := fun s hs => by
  rcases List.mem_or_eq_of_mem_set hs with h1 | h1
  · exact h s h1
  · rw [h1]; exact hd
theorem rest_set (l : List (List UInt8)) (k : Nat) (d : List UInt8) : (l.set k d).take k ++ (l.set k d).drop (k + 1) = l.take k ++ l.drop (k + 1) := by
  rw [List.take_set_of_le (Nat.le_refl _), List.drop_set_of_lt (by omega)]
theorem allLen_rest {l : List (List UInt8)} (h : AllLen 16 l) (k : Nat) : AllLen 16 (l.take k ++ l.drop (k + 1)) := AllLen.append (fun s hs => h s (List.mem_of_mem_take hs)) (fun s hs => h s (List.mem_of_mem_drop hs))
/-- one is what the others come to: all is nought -/
theorem sum_fill {l : List (List UInt8)} (h : AllLen 16 l) (k : Nat) (hk : k < l.length) : sumL 16 (l.set k (sumL 16 (l.take k ++ l.drop (k + 1)))) = noughts 16 := by
  have hr := sumL_len (allLen_rest h k)
  have h2 := allLen_set h k hr
  rw [sum_split h2 k (by simpa using hk), rest_set]
  simp only [List.getElem_set_self]
  rw [xorL_self, hr]

/-- what is written comes to nought -/
theorem writes_none {N col : Nat} (h : ColsOk N col (-1)) {l : List (List UInt8)} (hl : AllLen 16 l) (hn : l.length = N) (h0 : sumL 16 l = noughts 16) {d : List UInt8} (hd : d.length = 16) :
    sumL 16 (setL l (updW N col (-1)) (planW N col (-1) (namedL l (updR N col (-1))) d)) = noughts 16 := by
  obtain ⟨h1, h2, h3, h4, h5⟩ := h
  have e1 : updW N col (-1) = [col, N - 1] := by
    unfold updW
    rw [if_neg (by omega), if_neg (by omega)]
  have e2 : updR N col (-1) = [col, N - 1] := by
    unfold updR
    rw [if_neg (by omega), if_neg (by omega)]
  have hc : col < l.length := by omega
  have hp : N - 1 < l.length := by omega
  have e3 : namedL l [col, N - 1] = [l[col], l[N - 1]] := by simp [namedL, List.getElem?_eq_getElem hc, List.getElem?_eq_getElem hp]
  rw [e1, e2, e3]
  unfold planW
  rw [if_neg (by omega), if_neg (by omega)]
  simp only [List.getD_cons_zero, List.getD_cons_succ, setL]
  have lc := hl _ (List.getElem_mem hc)
  have lp := hl _ (List.getElem_mem hp)
  have hA1 := allLen_set hl col hd
  have e4 : (l.set col d)[N - 1]'(by simpa using hp) = l[N - 1] := by rw [List.getElem_set_ne (by omega)]
  have hm : (sumL 16 [l[N - 1], l[col], d]).length = 16 := sumL_len (by intro x hx; simp at hx; rcases hx with rfl | rfl | rfl <;> assumption)
  rw [sumL_set hA1 (N - 1) (by simpa using hp) hm, sumL_set hl col hc hd, h0, e4]
  have z1 : xorL (noughts 16) l[col] = l[col] := by rw [← lc]; exact zero_xorL _
  rw [z1, sumL_cons lp (by intro x hx; simp at hx; rcases hx with rfl | rfl <;> assumption), sumL_cons lc (by intro x hx; simp at hx; rw [hx]; exact hd), sumL_one hd]
  generalize l[col] = A at *
  generalize l[N - 1] = P at *
  rw [xorL_comm (xorL A d) P, xorL_self]
  rw [xorL_len lp (xorL_len lc hd)]
theorem writes_col {N col : Nat} {out : Int} (h : ColsOk N col out) (ho : out ≠ col) {l : List (List UInt8)} (hn : l.length = N) {r : List (List UInt8)} {d : List UInt8} :
    (setL l (updW N col out) (planW N col out r d))[col]? = some d := by
  obtain ⟨h1, h2, h3, h4, h5⟩ := h
  by_cases hp : out = (N : Int) - 1
  · rw [updW, planW, if_pos hp, if_pos hp]
    show (l.set col d)[col]? = some d
    exact List.getElem?_set_self (by omega)
  · rw [updW, planW, if_neg hp, if_neg ho, if_neg hp, if_neg ho]
    show ((l.set col d).set (N - 1) _)[col]? = some d
    rw [List.getElem?_set_ne (by omega)]
    exact List.getElem?_set_self (by omega)
/-- where the column itself is out: the others tell what is written -/
theorem writes_out {N col : Nat} (h : ColsOk N col (col : Int)) {l : List (List UInt8)} (hl : AllLen 16 l) (hn : l.length = N) {d : List UInt8} (hd : d.length = 16) :
    let l1 := setL l (updW N col col) (planW N col col (namedL l (updR N col col)) d)
    sumL 16 (l1.take col ++ l1.drop (col + 1)) = d := by
  obtain ⟨h1, h2, h3, h4, h5⟩ := h
  have e1 : updW N col col = [N - 1] := by
    unfold updW
    rw [if_neg (by omega), if_pos rfl]
  have e2 : updR N col col = othersN (N - 1) col := by
    unfold updR
    rw [if_neg (by omega), if_pos rfl]
  intro l1
  have hl1 : l1 = l.set (N - 1) (sumL 16 (d :: namedL l (othersN (N - 1) col))) := by
    show setL l (updW N col col) (planW N col col (namedL l (updR N col col)) d) = _
    rw [e1, e2]
    unfold planW
    rw [if_neg (by omega), if_pos rfl]
    rfl
  rw [namedL_others l (N - 1) col (by omega) (by omega)] at hl1
  have hX : AllLen 16 ((l.take (N - 1)).take col ++ (l.take (N - 1)).drop (col + 1)) := allLen_rest (fun s hs => hl s (List.mem_of_mem_take hs)) col
  obtain ⟨X, hXe⟩ : ∃ X, (l.take (N - 1)).take col ++ (l.take (N - 1)).drop (col + 1) = X := ⟨_, rfl⟩
  rw [hXe] at hl1 hX
  obtain ⟨m, hm⟩ : ∃ m, sumL 16 (d :: X) = m := ⟨_, rfl⟩
  rw [hm] at hl1
  have hml : m.length = 16 := by rw [← hm]; exact sumL_len (by intro x hx; rcases List.mem_cons.1 hx with r | r; exact r ▸ hd; exact hX x r)
  have e3 : l1.take col ++ l1.drop (col + 1) = X ++ [m] := by
    rw [hl1, ← hXe, List.append_assoc]
    congr 1
    · rw [List.take_set_of_le (by omega), List.take_take, Nat.min_eq_left (by omega)]
    · apply List.ext_getElem
      · simp; omega
      · intro j q1 q2
        simp at q1 q2
        rw [List.getElem_drop, List.getElem_set, List.getElem_append]
        split
        · rw [dif_neg (by simp; omega)]
          simp
        · rw [dif_pos (by simp; omega)]
          simp
  rw [e3, sumL_append hX (by intro x hx; simp at hx; rw [hx]; exact hml), sumL_one hml, ← hm, sumL_cons hd hX]
  generalize hs : sumL 16 X = Y
  have hy : Y.length = 16 := by rw [← hs]; exact sumL_len hX
  rw [xorL_comm d Y, ← xorL_assoc, xorL_self, hy, ← hd]
  exact zero_xorL d

theorem planW_len {N col : Nat} {out : Int} (h : ColsOk N col out) {l : List (List UInt8)} (hl : AllLen 16 l) (hn : l.length = N) {d : List UInt8} (hd : d.length = 16) : AllLen 16 (planW N col out (namedL l (updR N col out)) d) := by
  obtain ⟨h1, h2, h3, h4, h5⟩ := h
  have hc : col < l.length := by omega
  have hp : N - 1 < l.length := by omega
  have hin : ∀ x ∈ updR N col out, x < l.length := fun x hx => by rw [hn]; exact (updR_out ⟨h1, h2, h3, h4, h5⟩ x hx).2
  have hA : AllLen 16 (namedL l (updR N col out)) := by
    intro s hs
    obtain ⟨x, hx, rfl⟩ := List.mem_map.1 hs
    have := hin x hx
    simp only [List.getD_eq_getElem?_getD, List.getElem?_eq_getElem this, Option.getD_some]
    exact hl _ (List.getElem_mem this)
  unfold planW
  by_cases hp1 : out = (N : Int) - 1
  · rw [if_pos hp1]
    intro s hs
    simp at hs
    rw [hs]
    exact hd
  · rw [if_neg hp1]
    by_cases hp2 : out = (col : Int)
    · rw [if_pos hp2]
      intro s hs
      simp only [List.mem_singleton] at hs
      rw [hs]
      exact sumL_len (by intro x hx; rcases List.mem_cons.1 hx with r | r; exact r ▸ hd; exact hA x r)
    · rw [if_neg hp2]
      have e2 : updR N col out = [col, N - 1] := by
        unfold updR
        rw [if_neg hp1, if_neg hp2]
      have e3 : namedL l [col, N - 1] = [l[col], l[N - 1]] := by simp [namedL, List.getElem?_eq_getElem hc, List.getElem?_eq_getElem hp]
      rw [e2, e3]
      intro s hs
      simp only [List.getD_cons_zero, List.getD_cons_succ, List.mem_cons, List.not_mem_nil, or_false] at hs
      rcases hs with rfl | rfl
      · exact hd
      · refine sumL_len ?_
        intro x hx
        simp at hx
        rcases hx with rfl | rfl | rfl
        · exact hl _ (List.getElem_mem hp)
        · exact hl _ (List.getElem_mem hc)
        · exact hd
theorem setK_map (L : List ByteArray) (u : List Nat) (s : List ByteArray) (h1 : 1 ≤ u.length ∧ u.length ≤ 2) (h2 : s.length = u.length) : (setK L u s u.length).map bsOf = setL (L.map bsOf) u (s.map bsOf) := by
  match u, s, h1, h2 with
  | [x], [y], _, _ =>
    show (L.set x y).map bsOf = (L.map bsOf).set x (bsOf y)
    rw [List.map_set]
  | [x, x'], [y, y'], _, _ =>
    show ((L.set x y).set x' y').map bsOf = ((L.map bsOf).set x (bsOf y)).set x' (bsOf y')
    rw [List.map_set, List.map_set]
theorem setK_size (L : List ByteArray) (u : List Nat) (s : List ByteArray) (hL : ∀ x ∈ L, x.size = 16) (hs : ∀ x ∈ s, x.size = 16) : ∀ k, k ≤ s.length → ∀ x ∈ setK L u s k, x.size = 16
  | 0, _ => hL
  | k + 1, hk => by
    have ih := setK_size L u s hL hs k (by omega)
    intro x hx
    rw [setK] at hx
    rcases List.mem_or_eq_of_mem_set hx with h1 | h1
    · exact ih x h1
    · have hk' : k < s.length := by omega
      rw [h1, List.getD_eq_getElem?_getD, List.getElem?_eq_getElem hk', Option.getD_some]
      exact hs _ (List.getElem_mem hk')
end Go.Proofs.Ythckkmoafobmnaa

/- Walks over package plat. -/
import Derived.Test.YthckkmoafobmnaaPlatRef
import Derived.Deep.RegionHeld3
import Derived.StillTailTactics
namespace Go.Proofs.Ythckkmoafobmnaa
open Go.RowKit Go.ChangeShapes Go.WideShapes

theorem plat_below (n e : Int) (w : World) : Calls Try.prog 61 #[.int .i64 n, .int .i64 e] w fun r w' => r = .returned (.bool (decide (0 ≤ n) && decide (n < e))) ∧ w' = w := by
  cases h1 : decide (0 ≤ n) with
  | true =>
    cases h2 : decide (n < e) with
    | true =>
      go_enter Try.func61, Try.ntmps61
      go_wp2
      go_ret
      exact ⟨rfl, rfl⟩
    | false =>
      go_enter Try.func61, Try.ntmps61
      go_wp2
      go_ret
      exact ⟨rfl, rfl⟩
  | false =>
    go_enter Try.func61, Try.ntmps61
    go_wp2
    go_ret
    exact ⟨rfl, rfl⟩
theorem plat_below_val (n e : Int) (r : Bool) (h : (decide (0 ≤ n) && decide (n < e)) = r) (w : World) : Calls Try.prog 61 #[.int .i64 n, .int .i64 e] w fun e w' => e = .returned (.bool r) ∧ w' = w := by
  subst h
  exact plat_below n e w

/-- the number next to x that is not less than lo nor more than hi -/
def nearN (x lo hi : Int) : Int := if x < lo then lo else if hi < x then hi else x

theorem near_cases (x lo hi : Int) : (x < lo ∧ nearN x lo hi = lo) ∨ (lo ≤ x ∧ hi < x ∧ nearN x lo hi = hi) ∨ (lo ≤ x ∧ x ≤ hi ∧ nearN x lo hi = x) := by
  unfold nearN
  by_cases h1 : x < lo
  · exact Or.inl ⟨h1, by rw [if_pos h1]⟩
  · by_cases h2 : hi < x
    · exact Or.inr (Or.inl ⟨by omega, h2, by rw [if_neg h1, if_pos h2]⟩)
    · exact Or.inr (Or.inr ⟨by omega, by omega, by rw [if_neg h1, if_neg h2]⟩)
theorem near_is (x lo hi : Int) : (x == nearN x lo hi) = (decide (lo ≤ x) && decide (x ≤ hi)) := by
  rw [Bool.eq_iff_iff]
  simp only [beq_iff_eq, Bool.and_eq_true, decide_eq_true_eq]
  rcases near_cases x lo hi with ⟨h1, h2⟩ | ⟨h1, h2, h3⟩ | ⟨h1, h2, h3⟩ <;> omega

set_option maxRecDepth 100000 in
set_option maxHeartbeats 800000 in
theorem plat_nearest (a b : Int) (w : World) : Calls Try.prog 62 #[.agg #[.int .i64 a, .int .i64 b]] w fun e w' => e = .returned (.agg #[.int .i64 (nearN a 3 6), .int .i64 (nearN b 1 8)]) ∧ Below w.heap.size w w' := by
  rcases near_cases a 3 6 with ⟨h1, h2⟩ | ⟨h1, h2, h3⟩ | ⟨h1, h2, h3⟩ <;>
  rcases near_cases b 1 8 with ⟨g1, g2⟩ | ⟨g1, g2, g3⟩ | ⟨g1, g2, g3⟩
  all_goals
    simp only [*]
    go_enter Try.func62, Try.ntmps62
    go_wp2
    try simp only [Exit.inBlock, Exit.then]
    refine bodyPost_ret (v := .agg #[.int .i64 _, .int .i64 _]) (by simp [results, Try.results62, go_sem]) rfl ⟨rfl, ?_⟩
    exact ((Below.refl _ _).alloc (Nat.le_refl _) _).alloc (by simp) _

/-- two geometries, compared -/
theorem eq_geo (w : World) (d : Nat) (a b c e : Int) : (Op.equalIn (d + 2) 23 (.agg #[.int .i64 a, .int .i64 b]) (.agg #[.int .i64 c, .int .i64 e])).run Try.prog w = .ok (a == c && b == e) w := by
  cases h1 : a == c <;> cases h2 : b == e <;> go_simp

theorem right_near (N S : Int) : (N == nearN N 3 6 && S == nearN S 1 8) = rightB N S := by
  rw [near_is N 3 6, near_is S 1 8]
  simp [rightB, Bool.and_assoc]

set_option maxRecDepth 100000 in
set_option maxHeartbeats 800000 in
theorem plat_right (N S : Int) (w : World) : Calls Try.prog 42 #[.agg #[.int .i64 N, .int .i64 S]] w fun e w' => e = .returned (.bool (rightB N S)) ∧ Below w.heap.size w w' := by
  have C1 := Lib.hid (fun w' => plat_nearest N S w')
  rw [← right_near]
  generalize nearN N 3 6 = p at *
  generalize nearN S 1 8 = q at *
  cases h1 : N == p <;> cases h2 : S == q
  all_goals
    go_enter Try.func42, Try.ntmps42
    go_wp2_with fail
    obtain ⟨_, c0, c1⟩ := Geo.boxed w N S 23
    have b2 := (Below.refl w.heap.size w).alloc (Nat.le_refl _) (.cells #[.int .i64 N, .int .i64 S] 23)
    generalize w.alloc (.cells #[.int .i64 N, .int .i64 S] 23) = W at *
    have b3 := b2.drew
    go_region_held3 (fun w' => w'.cell? ⟨w.heap.size, 0, none⟩ = some (.int .i64 N) ∧ w'.cell? ⟨w.heap.size, 1, none⟩ = some (.int .i64 S))
      (first
        | exact ⟨k0, k1⟩
        | exact ⟨c0, c1⟩)
      (first
            | (go_at_call 62
               with_reducible refine (C1.out _).mono ?_
               rintro e w9 ⟨rfl, b9⟩
               have k0 : w9.cell? ⟨w.heap.size, 0, none⟩ = some (.int .i64 N) := keep_cell b9 (by assumption)
               have k1 : w9.cell? ⟨w.heap.size, 1, none⟩ = some (.int .i64 S) := keep_cell b9 (by assumption)
               have bb : Below w.heap.size w w9 := below_call (by assumption) b9))
    all_goals
      go_wp2
      go_ret
      exact ⟨rfl, bb⟩
theorem plat_right_is (N S : Int) (w : World) (r : Bool) (h : rightB N S = r) : Calls Try.prog 42 #[.agg #[.int .i64 N, .int .i64 S]] w fun e w' => e = .returned (.bool r) ∧ Below w.heap.size w w' := by
  subst h
  exact plat_right N S w

set_option maxRecDepth 100000 in
set_option maxHeartbeats 800000 in
theorem plat_parity (N S : Int) (w : World) : Calls Try.prog 45 #[.agg #[.int .i64 N, .int .i64 S]] w fun e w' => e = .returned (.int .i64 (parityI N S)) ∧ Below w.heap.size w w' := by
  cases h : rightB N S with
  | true =>
    rw [show parityI N S = N - 1 from if_pos h]
    obtain ⟨hN, hS1, hS8⟩ := right_cases h
    rcases hN with rfl | rfl | rfl | rfl
    all_goals
      have C1 := Lib.hid (fun w' => plat_right_is _ S w' _ h)
      clear h
      go_enter Try.func45, Try.ntmps45
      go_wp2_with fail
      refine (C1.out _).mono ?_
      rintro e w1 ⟨rfl, b1⟩
      obtain ⟨_, c0, c1⟩ := (Geo.boxed w _ S 23).later b1
      go_wp2
      go_ret
      exact ⟨rfl, below_boxed b1⟩
  | false =>
    rw [show parityI N S = -1 from if_neg (by simp [h])]
    have C1 := Lib.hid (fun w' => plat_right_is N S w' _ h)
    go_enter Try.func45, Try.ntmps45
    go_wp2_with fail
    refine (C1.out _).mono ?_
    rintro e w1 ⟨rfl, b1⟩
    go_wp2
    go_ret
    exact ⟨rfl, below_boxed b1⟩
theorem plat_parity_is (N S : Int) (w : World) (r : Int) (h : parityI N S = r) : Calls Try.prog 45 #[.agg #[.int .i64 N, .int .i64 S]] w fun e w' => e = .returned (.int .i64 r) ∧ Below w.heap.size w w' := by
  subst h
  exact plat_parity N S w
theorem parity_in {N S m : Int} (h : rightB N S = true) (hm : N - 1 = m) : parityI N S = m := by
  rw [← hm]
  exact if_pos h

set_option maxRecDepth 100000 in
set_option maxHeartbeats 800000 in
theorem plat_blocks (N S : Int) (w : World) : Calls Try.prog 44 #[.agg #[.int .i64 N, .int .i64 S]] w fun e w' => e = .returned (.int .i64 (blocksI N S)) ∧ Below w.heap.size w w' := by
  cases h : rightB N S with
  | true =>
    obtain ⟨m, hm⟩ : ∃ m, N - 1 = m := ⟨_, rfl⟩
    obtain ⟨V, hV⟩ : ∃ V, S * m = V := ⟨_, rfl⟩
    rw [show blocksI N S = V from by rw [← hV, ← hm]; exact if_pos h]
    have hw : IntKind.i64.wrap (S * m) = V := by
      obtain ⟨hN, hS1, hS8⟩ := right_cases h
      rw [← hV, IntKind.wrap_i64]
      · have : m = 2 ∨ m = 3 ∨ m = 4 ∨ m = 5 := by omega
        rcases this with rfl | rfl | rfl | rfl <;> omega
    have C1 := Lib.hid (fun w' => plat_right_is N S w' _ h)
    have C2 := Lib.hid (fun w' => plat_parity_is N S w' m (parity_in h hm))
    clear h hm hV
    go_enter Try.func44, Try.ntmps44
    go_wp2_with fail
    refine (C1.out _).mono ?_
    rintro e w1 ⟨rfl, b1⟩
    obtain ⟨_, c0, c1⟩ := (Geo.boxed w N S 23).later b1
    replace b1 := below_boxed b1
    have b3 := b1.drew
    go_wp2_with fail
    go_region_held3 (fun w' => w'.cell? ⟨w.heap.size, 0, none⟩ = some (.int .i64 N) ∧ w'.cell? ⟨w.heap.size, 1, none⟩ = some (.int .i64 S))
      (first
        | exact ⟨k0, k1⟩
        | exact ⟨c0, c1⟩)
      (first
        | (go_at_call 45
           with_reducible refine (C2.out _).mono ?_
           rintro e w9 ⟨rfl, b9⟩
           have k0 : w9.cell? ⟨w.heap.size, 0, none⟩ = some (.int .i64 N) := keep_cell b9 (by assumption)
           have k1 : w9.cell? ⟨w.heap.size, 1, none⟩ = some (.int .i64 S) := keep_cell b9 (by assumption)
           have bb : Below w.heap.size w w9 := below_call (by assumption) b9))
    all_goals
      go_wp2
      go_ret
      exact ⟨rfl, bb⟩
  | false =>
    rw [show blocksI N S = 0 from if_neg (by simp [h])]
    have C1 := Lib.hid (fun w' => plat_right_is N S w' _ h)
    go_enter Try.func44, Try.ntmps44
    go_wp2_with fail
    refine (C1.out _).mono ?_
    rintro e w1 ⟨rfl, b1⟩
    go_wp2
    go_ret
    exact ⟨rfl, below_boxed b1⟩
theorem plat_blocks_is (N S : Int) (w : World) (r : Int) (h : blocksI N S = r) : Calls Try.prog 44 #[.agg #[.int .i64 N, .int .i64 S]] w fun e w' => e = .returned (.int .i64 r) ∧ Below w.heap.size w w' := by
  subst h
  exact plat_blocks N S w
theorem in_iff {n e : Int} : (decide (0 ≤ n) && decide (n < e)) = true ↔ (0 ≤ n ∧ n < e) := by simp
theorem out_iff {n e : Int} : (decide (0 ≤ n) && decide (n < e)) = false ↔ ¬ (0 ≤ n ∧ n < e) := by
  rw [← in_iff]
  simp

set_option maxRecDepth 100000 in
set_option maxHeartbeats 1600000 in
theorem plat_nodeOf (N S st c : Int) (w : World) (_hn : (Lit.int .i64 N).wf = true) (_hs : (Lit.int .i64 S).wf = true) (_ht : (Lit.int .i64 st).wf = true) (_hc : (Lit.int .i64 c).wf = true) : Calls Try.prog 47 #[.agg #[.int .i64 N, .int .i64 S], .int .i64 st, .int .i64 c] w fun e w' => e = .returned (.int .i64 (nodeI N S st c)) ∧ Below w.heap.size w w' := by
  cases h : rightB N S with
  | true =>
    have C1 := Lib.hid (fun w' => plat_right_is N S w' _ h)
    cases hb1 : (decide (0 ≤ st) && decide (st < S)) with
    | true =>
      have C2 := Lib.hid (fun w' => plat_below_val st S _ hb1 w')
      cases hb2 : (decide (0 ≤ c) && decide (c < N)) with
      | true =>
        have C3 := Lib.hid (fun w' => plat_below_val c N _ hb2 w')
        obtain ⟨s0, s1⟩ := in_iff.1 hb1
        obtain ⟨q0, q1⟩ := in_iff.1 hb2
        rw [show nodeI N S st c = (c + st) % N from by rw [Int.add_comm]; exact if_pos ⟨h, s0, s1, q0, q1⟩]
        obtain ⟨hN, hS1, hS8⟩ := right_cases h
        have hz : 0 ≤ c + st := by omega
        have hz2 : c + st ≤ 14 := by omega
        rcases hN with rfl | rfl | rfl | rfl
        all_goals
          clear h hb1 hb2
          go_enter Try.func47, Try.ntmps47
          go_wp2_with fail
          refine (C1.out _).mono ?_
          rintro e w1 ⟨rfl, b1⟩
          obtain ⟨_, c0, c1⟩ := (Geo.boxed w _ S 23).later b1
          go_wp2_with fail
          refine (C2.out _).mono ?_
          rintro e w2 ⟨rfl, rfl⟩
          go_wp2_with fail
          refine (C3.out _).mono ?_
          rintro e w2 ⟨rfl, rfl⟩
          go_wp2
          go_ret
          exact ⟨rfl, below_boxed b1⟩
      | false =>
        have C3 := Lib.hid (fun w' => plat_below_val c N _ hb2 w')
        rw [show nodeI N S st c = -1 from if_neg (fun x => out_iff.1 hb2 ⟨x.2.2.2.1, x.2.2.2.2⟩)]
        clear h hb1 hb2
        go_enter Try.func47, Try.ntmps47
        go_wp2_with fail
        refine (C1.out _).mono ?_
        rintro e w1 ⟨rfl, b1⟩
        obtain ⟨_, c0, c1⟩ := (Geo.boxed w _ S 23).later b1
        go_wp2_with fail
        refine (C2.out _).mono ?_
        rintro e w2 ⟨rfl, rfl⟩
        go_wp2_with fail
        refine (C3.out _).mono ?_
        rintro e w2 ⟨rfl, rfl⟩
        go_wp2
        go_ret
        exact ⟨rfl, below_boxed b1⟩
    | false =>
      have C2 := Lib.hid (fun w' => plat_below_val st S _ hb1 w')
      rw [show nodeI N S st c = -1 from if_neg (fun x => out_iff.1 hb1 ⟨x.2.1, x.2.2.1⟩)]
      clear h hb1
      go_enter Try.func47, Try.ntmps47
      go_wp2_with fail
      refine (C1.out _).mono ?_
      rintro e w1 ⟨rfl, b1⟩
      obtain ⟨_, c0, c1⟩ := (Geo.boxed w _ S 23).later b1
      go_wp2_with fail
      refine (C2.out _).mono ?_
      rintro e w2 ⟨rfl, rfl⟩
      go_wp2
      go_ret
      exact ⟨rfl, below_boxed b1⟩
  | false =>
    have C1 := Lib.hid (fun w' => plat_right_is N S w' _ h)
    rw [show nodeI N S st c = -1 from if_neg (by simp [h])]
    clear h
    go_enter Try.func47, Try.ntmps47
    go_wp2_with fail
    refine (C1.out _).mono ?_
    rintro e w1 ⟨rfl, b1⟩
    go_wp2
    go_ret
    exact ⟨rfl, below_boxed b1⟩
theorem plat_nodeOf_is (N S st c : Int) (w : World) (r : Int) (hn : (Lit.int .i64 N).wf = true) (hs : (Lit.int .i64 S).wf = true) (ht : (Lit.int .i64 st).wf = true) (hc : (Lit.int .i64 c).wf = true) (h : nodeI N S st c = r) : Calls Try.prog 47 #[.agg #[.int .i64 N, .int .i64 S], .int .i64 st, .int .i64 c] w fun e w' => e = .returned (.int .i64 r) ∧ Below w.heap.size w w' := by
  subst h
  exact plat_nodeOf N S st c w hn hs ht hc

set_option maxRecDepth 100000 in
set_option maxHeartbeats 1600000 in
theorem plat_columnOf (N S st c : Int) (w : World) (_hn : (Lit.int .i64 N).wf = true) (_hs : (Lit.int .i64 S).wf = true) (_ht : (Lit.int .i64 st).wf = true) (_hc : (Lit.int .i64 c).wf = true) : Calls Try.prog 49 #[.agg #[.int .i64 N, .int .i64 S], .int .i64 st, .int .i64 c] w fun e w' => e = .returned (.int .i64 (colI N S st c)) ∧ Below w.heap.size w w' := by
  cases h : rightB N S with
  | true =>
    have C1 := Lib.hid (fun w' => plat_right_is N S w' _ h)
    cases hb1 : (decide (0 ≤ st) && decide (st < S)) with
    | true =>
      have C2 := Lib.hid (fun w' => plat_below_val st S _ hb1 w')
      cases hb2 : (decide (0 ≤ c) && decide (c < N)) with
      | true =>
        have C3 := Lib.hid (fun w' => plat_below_val c N _ hb2 w')
        obtain ⟨s0, s1⟩ := in_iff.1 hb1
        obtain ⟨q0, q1⟩ := in_iff.1 hb2
        obtain ⟨hN, hS1, hS8⟩ := right_cases h
        obtain ⟨t, ht⟩ : ∃ t, st % N = t := ⟨_, rfl⟩
        have ht0 : 0 ≤ t := by rw [← ht]; exact Int.emod_nonneg _ (by omega)
        have ht1 : t < N := by rw [← ht]; exact Int.emod_lt_of_pos _ (by omega)
        obtain ⟨v, hv⟩ : ∃ v, (c + N - t) % N = v := ⟨_, rfl⟩
        rw [show colI N S st c = v from by
          rw [show colI N S st c = (c - st) % N from if_pos ⟨h, s0, s1, q0, q1⟩, ← hv, ← ht]
          rcases hN with rfl | rfl | rfl | rfl <;> omega]
        have n3 : 3 ≤ N := by omega
        have n6 : N ≤ 6 := by omega
        have n0 : N ≠ 0 := by omega
        have w1 : IntKind.i64.wrap (c + N) = c + N := by rw [IntKind.wrap_i64]; omega
        have w2 : IntKind.i64.wrap (c + N - t) = c + N - t := by rw [IntKind.wrap_i64]; omega
        have ht2 : st.tmod N = t := by rw [Int.tmod_eq_emod_of_nonneg s0, ht]
        have hv2 : (c + N - t).tmod N = v := by rw [Int.tmod_eq_emod_of_nonneg (by omega), hv]
        clear h hb1 hb2 hN ht hv
        go_enter Try.func49, Try.ntmps49
        go_wp2_with fail
        refine (C1.out _).mono ?_
        rintro e w1 ⟨rfl, b1⟩
        obtain ⟨_, c0, c1⟩ := (Geo.boxed w N S 23).later b1
        go_wp2_with fail
        refine (C2.out _).mono ?_
        rintro e w2 ⟨rfl, rfl⟩
        go_wp2_with fail
        refine (C3.out _).mono ?_
        rintro e w2 ⟨rfl, rfl⟩
        have b3 := b1.drew
        go_wp2_with fail
        go_region_held3 (fun w' => w'.cell? ⟨w.heap.size, 0, none⟩ = some (.int .i64 N)) (first | exact c0) (fail)
        go_wp2
        go_ret
        exact ⟨rfl, below_boxed b3⟩
      | false =>
        have C3 := Lib.hid (fun w' => plat_below_val c N _ hb2 w')
        rw [show colI N S st c = -1 from if_neg (fun x => out_iff.1 hb2 ⟨x.2.2.2.1, x.2.2.2.2⟩)]
        clear h hb1 hb2
        go_enter Try.func49, Try.ntmps49
        go_wp2_with fail
        refine (C1.out _).mono ?_
        rintro e w1 ⟨rfl, b1⟩
        obtain ⟨_, c0, c1⟩ := (Geo.boxed w _ S 23).later b1
        go_wp2_with fail
        refine (C2.out _).mono ?_
        rintro e w2 ⟨rfl, rfl⟩
        go_wp2_with fail
        refine (C3.out _).mono ?_
        rintro e w2 ⟨rfl, rfl⟩
        go_wp2
        go_ret
        exact ⟨rfl, below_boxed b1⟩
    | false =>
      have C2 := Lib.hid (fun w' => plat_below_val st S _ hb1 w')
      rw [show colI N S st c = -1 from if_neg (fun x => out_iff.1 hb1 ⟨x.2.1, x.2.2.1⟩)]
      clear h hb1
      go_enter Try.func49, Try.ntmps49
      go_wp2_with fail
      refine (C1.out _).mono ?_
      rintro e w1 ⟨rfl, b1⟩
      obtain ⟨_, c0, c1⟩ := (Geo.boxed w _ S 23).later b1
      go_wp2_with fail
      refine (C2.out _).mono ?_
      rintro e w2 ⟨rfl, rfl⟩
      go_wp2
      go_ret
      exact ⟨rfl, below_boxed b1⟩
  | false =>
    have C1 := Lib.hid (fun w' => plat_right_is N S w' _ h)
    rw [show colI N S st c = -1 from if_neg (by simp [h])]
    clear h
    go_enter Try.func49, Try.ntmps49
    go_wp2_with fail
    refine (C1.out _).mono ?_
    rintro e w1 ⟨rfl, b1⟩
    go_wp2
    go_ret
    exact ⟨rfl, below_boxed b1⟩

set_option maxRecDepth 100000 in
set_option maxHeartbeats 1600000 in
theorem plat_of (N S b : Int) (w : World) (hn : (Lit.int .i64 N).wf = true) (hs : (Lit.int .i64 S).wf = true) (_hb : (Lit.int .i64 b).wf = true) : Calls Try.prog 39 #[.agg #[.int .i64 N, .int .i64 S], .int .i64 b] w fun e w' => e = .returned (ofV N S b) ∧ Below w.heap.size w w' := by
  obtain ⟨V, hV⟩ : ∃ V, blocksI N S = V := ⟨_, rfl⟩
  have C1 := Lib.hid (fun w' => plat_blocks_is N S w' V hV)
  cases h : hasB N S b with
  | true =>
    rw [ofV_yes h]
    have h2 := h
    rw [show hasB N S b = (decide (0 ≤ b) && decide (b < V)) by rw [← hV]; rfl] at h2
    have C2 := Lib.hid (fun w' => plat_below_val b V _ h2 w')
    obtain ⟨hr, b0, b1⟩ := has_iff.1 h
    obtain ⟨m, hm⟩ : ∃ m, N - 1 = m := ⟨_, rfl⟩
    have C3 := Lib.hid (fun w' => plat_parity_is N S w' m (parity_in hr hm))
    obtain ⟨hN, hS1, hS8⟩ := right_cases hr
    rw [hm]
    obtain ⟨q, hq⟩ : ∃ q, b / m = q := ⟨_, rfl⟩
    obtain ⟨r, hr0⟩ : ∃ r, b % m = r := ⟨_, rfl⟩
    obtain ⟨x, hx⟩ : ∃ x, (q + r) % N = x := ⟨_, rfl⟩
    have hs0 : 0 ≤ q := by rw [← hq]; exact Int.ediv_nonneg b0 (by omega)
    have hs1 : q < S := by rw [← hq, ← hm]; rcases hN with rfl | rfl | rfl | rfl <;> omega
    have hc0 : 0 ≤ r := by rw [← hr0]; exact Int.emod_nonneg _ (by omega)
    have hc1 : r < m := by rw [← hr0]; exact Int.emod_lt_of_pos _ (by omega)
    rw [hq, hr0, hx]
    have C4 := Lib.hid (fun w' => plat_nodeOf_is N S q r w' x hn hs (WalkArith.wf_i64 (by omega)) (WalkArith.wf_i64 (by omega)) (by rw [← hx]; exact if_pos ⟨hr, hs0, hs1, hc0, by omega⟩))
    have hm0 : 2 ≤ m := by omega
    have hm1 : m ≤ 5 := by omega
    have hmz : m ≠ 0 := by omega
    have hq2 : b.tdiv m = q := by rw [Int.tdiv_eq_ediv_of_nonneg b0, hq]
    have hr2 : b.tmod m = r := by rw [Int.tmod_eq_emod_of_nonneg b0, hr0]
    have hw : IntKind.i64.wrap q = q := by rw [IntKind.wrap_i64]; omega
    clear h h2 hV hr hN hm hq hr0 hx b1
    go_enter Try.func39, Try.ntmps39
    go_wp2_with fail
    refine (C1.out _).mono ?_
    rintro e w1 ⟨rfl, b2⟩
    have g1 := ((Geo.boxed w N S 23).later ((Below.refl _ _).alloc (Nat.le_refl _) (.cells #[.int .i64 0, .int .i64 0, .int .i64 0] 62))).later b2
    have p1 := (row_new (w.alloc (.cells #[.int .i64 N, .int .i64 S] 23)) [.int .i64 0, .int .i64 0, .int .i64 0] 62)
    rw [show (w.alloc (.cells #[.int .i64 N, .int .i64 S] 23)).heap.size = w.heap.size + 1 by simp] at p1
    replace p1 := p1.below b2 p1.lt
    have bb := below_call (((Below.refl w.heap.size w).alloc (Nat.le_refl _) (.cells #[.int .i64 N, .int .i64 S] 23)).alloc (by simp) (.cells #[.int .i64 0, .int .i64 0, .int .i64 0] 62)) b2
    clear b2 C1
    go_wp2_with fail
    refine (C2.out _).mono ?_
    rintro e w2 ⟨rfl, rfl⟩
    clear C2
    have G1 := Lib.hid g1
    have P1 := Lib.hid p1
    clear p1
    obtain ⟨_, c0, c1⟩ := g1
    go_wp2_with fail
    have b3 := bb.drew
    clear bb
    go_region_held3 (fun w' => w'.cell? ⟨w.heap.size, 0, none⟩ = some (.int .i64 N) ∧ w'.cell? ⟨w.heap.size, 1, none⟩ = some (.int .i64 S) ∧ Row w' (w.heap.size + 1) [.int .i64 0, .int .i64 0, .int .i64 0])
      (first
        | exact ⟨k0, k1, k2⟩
        | exact ⟨c0, c1, P1.out⟩)
      (first
        | (go_at_call 45
           with_reducible refine (C3.out _).mono ?_
           rintro e w9 ⟨rfl, b9⟩
           have k0 : w9.cell? ⟨w.heap.size, 0, none⟩ = some (.int .i64 N) := keep_cell b9 (by assumption)
           have k1 : w9.cell? ⟨w.heap.size, 1, none⟩ = some (.int .i64 S) := keep_cell b9 (by assumption)
           have k2 : Row w9 (w.heap.size + 1) [.int .i64 0, .int .i64 0, .int .i64 0] := Row.below (by assumption) b9 (Row.lt (by assumption))
           have bb : Below w.heap.size w w9 := below_call (by assumption) b9))
    clear c0 c1 G1 P1
    have K2 := Lib.hid k2
    clear k2
    go_wp2_with fail
    refine (C4.out _).mono ?_
    rintro e w3 ⟨rfl, b4⟩
    have p2 := K2.out.below b4 K2.out.lt
    replace bb := below_call bb b4
    have d0 := p2.cell (j := 0) rfl
    have d1 := p2.cell (j := 1) rfl
    have d2 := p2.cell (j := 2) rfl
    have f0 := p2.free (j := 0) (by simp)
    have f1 := p2.free (j := 1) (by simp)
    have f2 := p2.free (j := 2) (by simp)
    go_wp2
    try simp only [Exit.inBlock, Exit.then]
    refine bodyPost_ret (v := .tuple #[.agg #[.int .i64 q, .int .i64 r, .int .i64 x], .int .i64 0]) (by rw [results_cell_tmp rfl]; go_simp) rfl ⟨rfl, ?_⟩
    exact ((bb.setCell (by simp) _).setCell (by simp) _).setCell (by simp) _
  | false =>
    rw [ofV_no h]
    rw [show hasB N S b = (decide (0 ≤ b) && decide (b < V)) by rw [← hV]; rfl] at h
    have C2 := Lib.hid (fun w' => plat_below_val b V _ h w')
    clear h hV
    go_enter Try.func39, Try.ntmps39
    go_wp2_with fail
    refine (C1.out _).mono ?_
    rintro e w1 ⟨rfl, b2⟩
    have p1 := (row_new (w.alloc (.cells #[.int .i64 N, .int .i64 S] 23)) [.int .i64 0, .int .i64 0, .int .i64 0] 62)
    rw [show (w.alloc (.cells #[.int .i64 N, .int .i64 S] 23)).heap.size = w.heap.size + 1 by simp] at p1
    replace p1 := p1.below b2 p1.lt
    have bb := below_call (((Below.refl w.heap.size w).alloc (Nat.le_refl _) (.cells #[.int .i64 N, .int .i64 S] 23)).alloc (by simp) (.cells #[.int .i64 0, .int .i64 0, .int .i64 0] 62)) b2
    clear b2
    go_wp2_with fail
    refine (C2.out _).mono ?_
    rintro e w2 ⟨rfl, rfl⟩
    have c0 := p1.cell (j := 0) rfl
    have c1 := p1.cell (j := 1) rfl
    have c2 := p1.cell (j := 2) rfl
    have f0 := p1.free (j := 0) (by simp)
    have f1 := p1.free (j := 1) (by simp)
    have f2 := p1.free (j := 2) (by simp)
    go_wp2
    try simp only [Exit.inBlock, Exit.then]
    refine bodyPost_ret (v := .tuple #[.agg #[.int .i64 0, .int .i64 0, .int .i64 0], .int .i64 50]) (by rw [results_cell_tmp rfl]; go_simp) rfl ⟨rfl, ?_⟩
    exact ((bb.setCell (by simp) _).setCell (by simp) _).setCell (by simp) _

theorem block_yes {N S st c : Int} (h : rightB N S = true) (h1 : (decide (0 ≤ st) && decide (st < S)) = true) (h2 : (decide (0 ≤ c) && decide (c < N - 1)) = true) : isB N S st c = true ∧ numB N S st c = st * (N - 1) + c := by
  obtain ⟨s0, s1⟩ := in_iff.1 h1
  obtain ⟨q0, q1⟩ := in_iff.1 h2
  have e := node_is (N := N) (S := S) (st := st) (c := c) ⟨h, s0, s1, q0, by omega⟩
  have e1 : isB N S st c = true := by
    unfold isB
    rw [e.1, show decide (c = N - 1) = false from decide_eq_false (by omega)]
    simp [e.2.1]
  exact ⟨e1, if_pos e1⟩
theorem block_no {N S st c : Int} (h : ¬ (rightB N S = true ∧ (0 ≤ st ∧ st < S) ∧ 0 ≤ c ∧ c < N - 1)) : isB N S st c = false ∧ numB N S st c = 0 := by
  have e1 : isB N S st c = false := by
    by_cases hc : c = N - 1
    · simp [isB, hc]
    · have : nodeI N S st c = -1 := if_neg (fun x => h ⟨x.1, ⟨x.2.1, x.2.2.1⟩, x.2.2.2.1, by omega⟩)
      simp [isB, this]
  exact ⟨e1, by simp [numB, e1]⟩

set_option maxRecDepth 100000 in
set_option maxHeartbeats 1600000 in
theorem plat_block (N S st c : Int) (w : World) (_hn : (Lit.int .i64 N).wf = true) (_hs : (Lit.int .i64 S).wf = true) (_ht : (Lit.int .i64 st).wf = true) (_hc : (Lit.int .i64 c).wf = true) : Calls Try.prog 41 #[.agg #[.int .i64 N, .int .i64 S], .int .i64 st, .int .i64 c] w fun e w' => e = .returned (.tuple #[.int .i64 (numB N S st c), .bool (isB N S st c)]) ∧ Below w.heap.size w w' := by
  cases h : rightB N S with
  | true =>
    have C1 := Lib.hid (fun w' => plat_right_is N S w' _ h)
    obtain ⟨m, hm⟩ : ∃ m, N - 1 = m := ⟨_, rfl⟩
    have C4 := Lib.hid (fun w' => plat_parity_is N S w' m (parity_in h hm))
    cases hb1 : (decide (0 ≤ st) && decide (st < S)) with
    | true =>
      have C2 := Lib.hid (fun w' => plat_below_val st S _ hb1 w')
      cases hb2 : (decide (0 ≤ c) && decide (c < m)) with
      | true =>
        have C3 := Lib.hid (fun w' => plat_below_val c m _ hb2 w')
        obtain ⟨s0, s1⟩ := in_iff.1 hb1
        obtain ⟨q0, q1⟩ := in_iff.1 hb2
        obtain ⟨hN, hS1, hS8⟩ := right_cases h
        have e := block_yes h hb1 (by rw [hm]; exact hb2)
        rw [hm] at e
        obtain ⟨V, hV⟩ : ∃ V, st * m = V := ⟨_, rfl⟩
        have hV0 : 0 ≤ V := by rw [← hV]; exact Int.mul_nonneg s0 (by omega)
        have hV1 : V ≤ 40 := by
          have : m = 2 ∨ m = 3 ∨ m = 4 ∨ m = 5 := by omega
          rcases this with rfl | rfl | rfl | rfl <;> omega
        have hw : IntKind.i64.wrap (st * m) = V := by
          rw [hV, IntKind.wrap_i64]
          omega
        rw [e.1, e.2, hV]
        have hm5 : m ≤ 5 := by omega
        have hw2 : IntKind.i64.wrap (V + c) = V + c := by rw [IntKind.wrap_i64]; omega
        clear h hb1 hb2 hN e hV
        go_enter Try.func41, Try.ntmps41
        go_wp2_with fail
        refine (C1.out _).mono ?_
        rintro e w1 ⟨rfl, b1⟩
        have g1 := (Geo.boxed w N S 23).later b1
        replace b1 := below_boxed b1
        have G1 := Lib.hid g1
        obtain ⟨_, c0, c1⟩ := g1
        go_wp2_with fail
        refine (C2.out _).mono ?_
        rintro e w2 ⟨rfl, rfl⟩
        go_wp2_with fail
        refine (C4.out _).mono ?_
        rintro e w2 ⟨rfl, b2⟩
        clear c0 c1
        obtain ⟨_, c0, c1⟩ := G1.out.later b2
        replace b1 := below_call b1 b2
        go_wp2_with fail
        refine (C3.out _).mono ?_
        rintro e w2 ⟨rfl, rfl⟩
        clear G1
        go_wp2_with fail
        refine (C4.out _).mono ?_
        rintro e w3 ⟨rfl, b3⟩
        go_wp2
        go_ret2
        exact ⟨rfl, below_call b1 b3⟩
      | false =>
        have C3 := Lib.hid (fun w' => plat_below_val c m _ hb2 w')
        have e := block_no (N := N) (S := S) (st := st) (c := c) (fun x => out_iff.1 hb2 (by rw [← hm]; exact x.2.2))
        rw [e.1, e.2]
        clear h hb1 hb2 hm e
        go_enter Try.func41, Try.ntmps41
        go_wp2_with fail
        refine (C1.out _).mono ?_
        rintro e w1 ⟨rfl, b1⟩
        obtain ⟨_, c0, c1⟩ := (Geo.boxed w N S 23).later b1
        replace b1 := below_boxed b1
        go_wp2_with fail
        refine (C2.out _).mono ?_
        rintro e w2 ⟨rfl, rfl⟩
        go_wp2_with fail
        refine (C4.out _).mono ?_
        rintro e w2 ⟨rfl, b2⟩
        replace b1 := below_call b1 b2
        go_wp2_with fail
        refine (C3.out _).mono ?_
        rintro e w2 ⟨rfl, rfl⟩
        go_wp2
        go_ret2
        exact ⟨rfl, b1⟩
    | false =>
      have C2 := Lib.hid (fun w' => plat_below_val st S _ hb1 w')
      have e := block_no (N := N) (S := S) (st := st) (c := c) (fun x => out_iff.1 hb1 x.2.1)
      rw [e.1, e.2]
      clear h hb1 hm e
      go_enter Try.func41, Try.ntmps41
      go_wp2_with fail
      refine (C1.out _).mono ?_
      rintro e w1 ⟨rfl, b1⟩
      obtain ⟨_, c0, c1⟩ := (Geo.boxed w N S 23).later b1
      go_wp2_with fail
      refine (C2.out _).mono ?_
      rintro e w2 ⟨rfl, rfl⟩
      go_wp2
      go_ret2
      exact ⟨rfl, below_boxed b1⟩
  | false =>
    have C1 := Lib.hid (fun w' => plat_right_is N S w' _ h)
    have e := block_no (N := N) (S := S) (st := st) (c := c) (fun x => by rw [h] at x; exact absurd x.1 (by simp))
    rw [e.1, e.2]
    clear h e
    go_enter Try.func41, Try.ntmps41
    go_wp2_with fail
    refine (C1.out _).mono ?_
    rintro e w1 ⟨rfl, b1⟩
    go_wp2
    go_ret2
    exact ⟨rfl, below_boxed b1⟩
end Go.Proofs.Ythckkmoafobmnaa

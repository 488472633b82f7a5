/- The document's answer of layer 5, walked. -/
import Derived.Test.YthckkmoafobmnaaLib
import Derived.Laws.ResultCell
namespace Go.Proofs.Ythckkmoafobmnaa
open Go.RowKit Go.ChangeShapes Go.WideShapes

def rightB (N S : Int) : Bool := decide (3 ≤ N) && decide (N ≤ 6) && decide (1 ≤ S) && decide (S ≤ 8)
def blocksI (N S : Int) : Int := if rightB N S = true then S * (N - 1) else 0
def parityI (N S : Int) : Int := if rightB N S = true then N - 1 else -1
def nodeI (N S st c : Int) : Int := if rightB N S = true ∧ 0 ≤ st ∧ st < S ∧ 0 ≤ c ∧ c < N then (st + c) % N else -1
def colI (N S st nd : Int) : Int := if rightB N S = true ∧ 0 ≤ st ∧ st < S ∧ 0 ≤ nd ∧ nd < N then (nd - st) % N else -1
def hasB (N S b : Int) : Bool := decide (0 ≤ b) && decide (b < blocksI N S)
def ofS (N S b : Int) : Int := if hasB N S b = true then b / (N - 1) else 0
def ofC (N S b : Int) : Int := if hasB N S b = true then b % (N - 1) else 0
def ofN (N S b : Int) : Int := if hasB N S b = true then (b / (N - 1) + b % (N - 1)) % N else 0
def ofE (N S b : Int) : Int := if hasB N S b = true then 0 else 50
def isB (N S st c : Int) : Bool := decide (0 ≤ nodeI N S st c) && !decide (c = N - 1)
def numB (N S st c : Int) : Int := if isB N S st c = true then st * (N - 1) + c else 0

theorem right_iff (N S : Int) : rightB N S = true ↔ (3 ≤ N ∧ N ≤ 6 ∧ 1 ≤ S ∧ S ≤ 8) := by simp [rightB, and_assoc]
theorem right_cases {N S : Int} (h : rightB N S = true) : (N = 3 ∨ N = 4 ∨ N = 5 ∨ N = 6) ∧ 1 ≤ S ∧ S ≤ 8 := by
  have := (right_iff N S).1 h
  omega
theorem wrong_cases {N S : Int} (h : rightB N S = false) : decide (3 ≤ N) = false ∨ (decide (3 ≤ N) = true ∧ decide (N ≤ 6) = false) ∨ (decide (3 ≤ N) = true ∧ decide (N ≤ 6) = true ∧ decide (1 ≤ S) = false) ∨ (decide (3 ≤ N) = true ∧ decide (N ≤ 6) = true ∧ decide (1 ≤ S) = true ∧ decide (S ≤ 8) = false) := by
  unfold rightB at h
  cases h1 : decide (3 ≤ N) <;> cases h2 : decide (N ≤ 6) <;> cases h3 : decide (1 ≤ S) <;> cases h4 : decide (S ≤ 8) <;> simp_all

set_option maxRecDepth 100000 in
set_option maxHeartbeats 800000 in
theorem ref05_right (N S : Int) (w : World) : Calls Try.prog 43 #[.agg #[.int .i64 N, .int .i64 S]] w fun e w' => e = .returned (.bool (rightB N S)) ∧ Below w.heap.size w w' := by
  cases h : rightB N S with
  | true =>
    have h2 := (right_iff N S).1 h
    have d1 : decide (3 ≤ N) = true := by simp; omega
    have d2 : decide (N ≤ 6) = true := by simp; omega
    have d3 : decide (1 ≤ S) = true := by simp; omega
    have d4 : decide (S ≤ 8) = true := by simp; omega
    clear h h2
    go_enter Try.func43, Try.ntmps43
    go_wp2
    go_ret
    exact ⟨rfl, (Below.refl _ _).alloc (Nat.le_refl _) _⟩
  | false =>
    rcases wrong_cases h with d1 | ⟨d1, d2⟩ | ⟨d1, d2, d3⟩ | ⟨d1, d2, d3, d4⟩
    all_goals
      clear h
      go_enter Try.func43, Try.ntmps43
      go_wp2
      go_ret
      exact ⟨rfl, (Below.refl _ _).alloc (Nat.le_refl _) _⟩

theorem ref05_right_val (N S : Int) (w : World) (r : Bool) (h : rightB N S = r) : Calls Try.prog 43 #[.agg #[.int .i64 N, .int .i64 S]] w fun e w' => e = .returned (.bool r) ∧ Below w.heap.size w w' := by
  subst h
  exact ref05_right N S w

/-- a block of two numbers -/
def Geo (w : World) (g : Nat) (N S : Int) : Prop := g < w.heap.size ∧ w.cell? ⟨g, 0, none⟩ = some (.int .i64 N) ∧ w.cell? ⟨g, 1, none⟩ = some (.int .i64 S)
section
variable {w w' : World} {g B : Nat} {N S : Int}
theorem Geo.lt (h : Geo w g N S) : g < w.heap.size := h.1
theorem Geo.one (h : Geo w g N S) : w.cell? ⟨g, 0, none⟩ = some (.int .i64 N) := h.2.1
theorem Geo.two (h : Geo w g N S) : w.cell? ⟨g, 1, none⟩ = some (.int .i64 S) := h.2.2
theorem Geo.below (h : Geo w g N S) (hb : Below B w w') (hg : g < B) : Geo w' g N S :=
  ⟨Nat.lt_of_lt_of_le h.1 hb.size, (hb.cell (p := ⟨g, 0, none⟩) hg).trans h.2.1, (hb.cell (p := ⟨g, 1, none⟩) hg).trans h.2.2⟩
theorem Geo.later (h : Geo w g N S) (hb : Below w.heap.size w w') : Geo w' g N S := h.below hb h.1
theorem Geo.boxed (w : World) (N S : Int) (t : TypeId) : Geo (w.alloc (.cells #[.int .i64 N, .int .i64 S] t)) w.heap.size N S := by
  have h := reads_lit w [.int .i64 N, .int .i64 S] t 2 rfl
  obtain ⟨b, o, e, _, hc⟩ := h.2 (by omega)
  simp only [Option.some.injEq, Addr.mk.injEq] at e
  obtain ⟨rfl, rfl, _⟩ := e
  exact ⟨by simp, hc 0 _ rfl, hc 1 _ rfl⟩
end
/-- a call's own 'Below', behind a first block of one's own -/
theorem below_boxed {w w1 : World} {o : Obj} (b : Below (w.alloc o).heap.size (w.alloc o) w1) : Below w.heap.size w w1 := below_call ((Below.refl _ _).alloc (Nat.le_refl _) o) b

set_option maxRecDepth 100000 in
set_option maxHeartbeats 800000 in
theorem ref05_blocks (N S : Int) (w : World) : Calls Try.prog 24 #[.agg #[.int .i64 N, .int .i64 S]] w fun e w' => e = .returned (.int .i64 (blocksI N S)) ∧ Below w.heap.size w w' := by
  cases h : rightB N S with
  | true =>
    rw [show blocksI N S = S * (N - 1) from if_pos h]
    obtain ⟨hN, hS1, hS8⟩ := right_cases h
    rcases hN with rfl | rfl | rfl | rfl
    all_goals
      have C1 := Lib.hid (fun w' => ref05_right_val _ S w' _ h)
      clear h
      go_enter Try.func24, Try.ntmps24
      go_wp2_with fail
      refine (C1.out _).mono ?_
      rintro e w1 ⟨rfl, b1⟩
      obtain ⟨_, c0, c1⟩ := (Geo.boxed w _ S 23).later b1
      go_wp2
      go_ret
      exact ⟨rfl, below_boxed b1⟩
  | false =>
    rw [show blocksI N S = 0 from if_neg (by simp [h])]
    have C1 := Lib.hid (fun w' => ref05_right_val N S w' _ h)
    go_enter Try.func24, Try.ntmps24
    go_wp2_with fail
    refine (C1.out _).mono ?_
    rintro e w1 ⟨rfl, b1⟩
    go_wp2
    go_ret
    exact ⟨rfl, below_boxed b1⟩
set_option maxRecDepth 100000 in
set_option maxHeartbeats 800000 in
theorem ref05_parity (N S : Int) (w : World) : Calls Try.prog 46 #[.agg #[.int .i64 N, .int .i64 S]] w fun e w' => e = .returned (.int .i64 (parityI N S)) ∧ Below w.heap.size w w' := by
  cases h : rightB N S with
  | true =>
    rw [show parityI N S = N - 1 from if_pos h]
    obtain ⟨hN, hS1, hS8⟩ := right_cases h
    rcases hN with rfl | rfl | rfl | rfl
    all_goals
      have C1 := Lib.hid (fun w' => ref05_right_val _ S w' _ h)
      clear h
      go_enter Try.func46, Try.ntmps46
      go_wp2_with fail
      refine (C1.out _).mono ?_
      rintro e w1 ⟨rfl, b1⟩
      obtain ⟨_, c0, c1⟩ := (Geo.boxed w _ S 23).later b1
      go_wp2
      go_ret
      exact ⟨rfl, below_boxed b1⟩
  | false =>
    rw [show parityI N S = -1 from if_neg (by simp [h])]
    have C1 := Lib.hid (fun w' => ref05_right_val N S w' _ h)
    go_enter Try.func46, Try.ntmps46
    go_wp2_with fail
    refine (C1.out _).mono ?_
    rintro e w1 ⟨rfl, b1⟩
    go_wp2
    go_ret
    exact ⟨rfl, below_boxed b1⟩

/-- where a stripe or a column is that there is not -/
theorem out_cases {S st N c : Int} (h : ¬ (0 ≤ st ∧ st < S ∧ 0 ≤ c ∧ c < N)) : decide (st < 0) = true ∨ (decide (st < 0) = false ∧ decide (S ≤ st) = true) ∨ (decide (st < 0) = false ∧ decide (S ≤ st) = false ∧ decide (c < 0) = true) ∨ (decide (st < 0) = false ∧ decide (S ≤ st) = false ∧ decide (c < 0) = false ∧ decide (N ≤ c) = true) := by
  by_cases h1 : st < 0
  · exact Or.inl (by simp; omega)
  · by_cases h2 : S ≤ st
    · exact Or.inr (Or.inl ⟨by simp; omega, by simp; omega⟩)
    · by_cases h3 : c < 0
      · exact Or.inr (Or.inr (Or.inl ⟨by simp; omega, by simp; omega, by simp; omega⟩))
      · exact Or.inr (Or.inr (Or.inr ⟨by simp; omega, by simp; omega, by simp; omega, by simp; omega⟩))

set_option maxRecDepth 100000 in
set_option maxHeartbeats 1600000 in
theorem ref05_nodeOf (N S st c : Int) (w : World) : Calls Try.prog 48 #[.agg #[.int .i64 N, .int .i64 S], .int .i64 st, .int .i64 c] w fun e w' => e = .returned (.int .i64 (nodeI N S st c)) ∧ Below w.heap.size w w' := by
  cases h : rightB N S with
  | true =>
    by_cases hin : 0 ≤ st ∧ st < S ∧ 0 ≤ c ∧ c < N
    · rw [show nodeI N S st c = (st + c) % N from if_pos ⟨h, hin⟩]
      obtain ⟨hN, hS1, hS8⟩ := right_cases h
      obtain ⟨s0, s1, q0, q1⟩ := hin
      have C1 := Lib.hid (fun w' => ref05_right_val _ S w' _ h)
      have d1 : decide (st < 0) = false := by simp; omega
      have d2 : decide (S ≤ st) = false := by simp; omega
      have d3 : decide (c < 0) = false := by simp; omega
      have d4 : decide (N ≤ c) = false := by simp; omega
      have hz : 0 ≤ st + c := by omega
      have hz2 : st + c ≤ 14 := by omega
      rcases hN with rfl | rfl | rfl | rfl
      all_goals
        clear h
        go_enter Try.func48, Try.ntmps48
        go_wp2_with fail
        refine (C1.out _).mono ?_
        rintro e w1 ⟨rfl, b1⟩
        obtain ⟨_, c0, c1⟩ := (Geo.boxed w _ S 23).later b1
        go_wp2
        go_ret
        exact ⟨rfl, below_boxed b1⟩
    · rw [show nodeI N S st c = -1 from if_neg (fun x => hin x.2)]
      have C1 := Lib.hid (fun w' => ref05_right_val _ S w' _ h)
      clear h
      rcases out_cases hin with d1 | ⟨d1, d2⟩ | ⟨d1, d2, d3⟩ | ⟨d1, d2, d3, d4⟩
      all_goals
        clear hin
        go_enter Try.func48, Try.ntmps48
        go_wp2_with fail
        refine (C1.out _).mono ?_
        rintro e w1 ⟨rfl, b1⟩
        obtain ⟨_, c0, c1⟩ := (Geo.boxed w N S 23).later b1
        go_wp2
        go_ret
        exact ⟨rfl, below_boxed b1⟩
  | false =>
    rw [show nodeI N S st c = -1 from if_neg (by simp [h])]
    have C1 := Lib.hid (fun w' => ref05_right_val N S w' _ h)
    go_enter Try.func48, Try.ntmps48
    go_wp2_with fail
    refine (C1.out _).mono ?_
    rintro e w1 ⟨rfl, b1⟩
    go_wp2
    go_ret
    exact ⟨rfl, below_boxed b1⟩

theorem ref05_nodeOf_val (N S st c : Int) (w : World) (v : Int) (h : nodeI N S st c = v) : Calls Try.prog 48 #[.agg #[.int .i64 N, .int .i64 S], .int .i64 st, .int .i64 c] w fun e w' => e = .returned (.int .i64 v) ∧ Below w.heap.size w w' := by
  subst h
  exact ref05_nodeOf N S st c w
theorem ref05_blocks_val (N S : Int) (w : World) (v : Int) (h : blocksI N S = v) : Calls Try.prog 24 #[.agg #[.int .i64 N, .int .i64 S]] w fun e w' => e = .returned (.int .i64 v) ∧ Below w.heap.size w w' := by
  subst h
  exact ref05_blocks N S w
theorem ref05_parity_val (N S : Int) (w : World) (v : Int) (h : parityI N S = v) : Calls Try.prog 46 #[.agg #[.int .i64 N, .int .i64 S]] w fun e w' => e = .returned (.int .i64 v) ∧ Below w.heap.size w w' := by
  subst h
  exact ref05_parity N S w

set_option maxRecDepth 100000 in
set_option maxHeartbeats 3200000 in
theorem ref05_columnOf (N S st nd : Int) (w : World) : Calls Try.prog 50 #[.agg #[.int .i64 N, .int .i64 S], .int .i64 st, .int .i64 nd] w fun e w' => e = .returned (.int .i64 (colI N S st nd)) ∧ Below w.heap.size w w' := by
  cases h : rightB N S with
  | true =>
    by_cases hin : 0 ≤ st ∧ st < S ∧ 0 ≤ nd ∧ nd < N
    · obtain ⟨v, hv⟩ : ∃ v, colI N S st nd = v := ⟨_, rfl⟩
      have hv2 : (nd - st) % N = v := by rw [← hv]; exact (if_pos ⟨h, hin⟩).symm
      rw [hv]
      obtain ⟨hN, hS1, hS8⟩ := right_cases h
      obtain ⟨s0, s1, q0, q1⟩ := hin
      have C1 := Lib.hid (fun w' => ref05_right_val _ S w' _ h)
      have d1 : decide (st < 0) = false := by simp; omega
      have d2 : decide (S ≤ st) = false := by simp; omega
      have d3 : decide (nd < 0) = false := by simp; omega
      have d4 : decide (N ≤ nd) = false := by simp; omega
      have HC := Lib.hid (fun c (c0 : 0 ≤ c) (c1 : c < N) w' => ref05_nodeOf_val N S st c w' ((st + c) % N) (if_pos ⟨h, s0, s1, c0, c1⟩))
      have HV := Lib.hid hv2
      have n3 : 3 ≤ N := by omega
      have n6 : N ≤ 6 := by omega
      have HN := Lib.hid hN
      have found : ∀ k : Int, 0 ≤ k → k < N → (st + k) % N = nd → k = v := fun k k0 k1 hk => by
        rw [← hv2]
        rcases hN with rfl | rfl | rfl | rfl <;> omega
      have none_ : (∀ j : Int, 0 ≤ j → j < N → (st + j) % N ≠ nd) → False := fun hj => by
        have := hj ((nd - st) % N) (Int.emod_nonneg _ (by omega)) (Int.emod_lt_of_pos _ (by omega))
        rcases hN with rfl | rfl | rfl | rfl <;> omega
      have HFOUND := Lib.hid found
      have HNONE := Lib.hid none_
      clear hv hv2 h hN found none_
      go_enter Try.func50, Try.ntmps50
      go_wp2_with fail
      refine (C1.out _).mono ?_
      rintro e w1 ⟨rfl, b1⟩
      have g1 := (Geo.boxed w _ S 23).later b1
      replace b1 := below_boxed b1
      have G1 := Lib.hid g1
      obtain ⟨_, c0, c1⟩ := g1
      go_wp2_with fail
      clear c0 c1
      go_loopw [8] (fun i wr => ∃ k : Int, 0 ≤ k ∧ k ≤ N ∧ i = .int .i64 k ∧ Hid (∀ j : Int, 0 ≤ j → j < k → (st + j) % N ≠ nd) ∧ Geo wr w.heap.size N S ∧ Below w.heap.size w wr) (fun i _ => (N - intOf i).toNat)
      case atStart => exact ⟨0, by omega, by omega, rfl, Lib.hid (fun j j0 j1 => by omega), G1.out, b1⟩
      case round =>
        obtain ⟨k, k0, k6, rfl, hno, hg, hbr⟩ := hrel
        obtain ⟨glt, c0, c1⟩ := hg
        by_cases hkN : k < N
        · have dk : decide (k < N) = true := by simp; omega
          obtain ⟨x, hx⟩ : ∃ x, (st + k) % N = x := ⟨_, rfl⟩
          have C3 := Lib.hid (fun w' => HC.out k k0 hkN w')
          rw [hx] at C3
          have HX := Lib.hid hx
          clear hx
          go_wp2_with fail
          refine (C3.out _).mono ?_
          rintro e w2 ⟨rfl, b2⟩
          have g2 := Geo.later ⟨glt, c0, c1⟩ b2
          replace b2 := below_call hbr b2
          by_cases hxn : x = nd
          · have e1 : (x == nd) = true := by simp [hxn]
            have e2 := HFOUND.out k k0 hkN (by rw [HX.out, hxn])
            subst e2
            clear hno HFOUND HNONE C3 HC c0 c1 hxn
            go_wp2
            go_ret
            exact ⟨rfl, b2⟩
          · have e1 : (x == nd) = false := by simp [hxn]
            have hno2 : Hid (∀ j : Int, 0 ≤ j → j < k + 1 → (st + j) % N ≠ nd) := Lib.hid fun j j0 j1 => by
              by_cases hj : j < k
              · exact hno.out j j0 hj
              · rw [show j = k by omega, HX.out]; exact hxn
            clear hno HFOUND HNONE C3 HC c0 c1
            go_wp2
            go_roundw
            case rel => exact ⟨k + 1, by omega, by omega, rfl, hno2, g2, b2⟩
            case measure => simp [intOf]; omega
        · have e : k = N := by omega
          subst e
          exact (HNONE.out hno.out).elim
    · rw [show colI N S st nd = -1 from if_neg (fun x => hin x.2)]
      have C1 := Lib.hid (fun w' => ref05_right_val _ S w' _ h)
      clear h
      rcases out_cases hin with d1 | ⟨d1, d2⟩ | ⟨d1, d2, d3⟩ | ⟨d1, d2, d3, d4⟩
      all_goals
        clear hin
        go_enter Try.func50, Try.ntmps50
        go_wp2_with fail
        refine (C1.out _).mono ?_
        rintro e w1 ⟨rfl, b1⟩
        obtain ⟨_, c0, c1⟩ := (Geo.boxed w N S 23).later b1
        go_wp2
        go_ret
        exact ⟨rfl, below_boxed b1⟩
  | false =>
    rw [show colI N S st nd = -1 from if_neg (by simp [h])]
    have C1 := Lib.hid (fun w' => ref05_right_val N S w' _ h)
    go_enter Try.func50, Try.ntmps50
    go_wp2_with fail
    refine (C1.out _).mono ?_
    rintro e w1 ⟨rfl, b1⟩
    go_wp2
    go_ret
    exact ⟨rfl, below_boxed b1⟩

/-- what Of answers -/
def ofV (N S b : Int) : Value := .tuple #[.agg #[.int .i64 (ofS N S b), .int .i64 (ofC N S b), .int .i64 (ofN N S b)], .int .i64 (ofE N S b)]
theorem ofV_no {N S b : Int} (h : hasB N S b = false) : ofV N S b = .tuple #[.agg #[.int .i64 0, .int .i64 0, .int .i64 0], .int .i64 50] := by
  simp [ofV, ofS, ofC, ofN, ofE, h]
theorem ofV_yes {N S b : Int} (h : hasB N S b = true) : ofV N S b = .tuple #[.agg #[.int .i64 (b / (N - 1)), .int .i64 (b % (N - 1)), .int .i64 ((b / (N - 1) + b % (N - 1)) % N)], .int .i64 0] := by
  simp [ofV, ofS, ofC, ofN, ofE, h]
theorem has_iff {N S b : Int} : hasB N S b = true ↔ (rightB N S = true ∧ 0 ≤ b ∧ b < S * (N - 1)) := by
  have e : hasB N S b = true ↔ (0 ≤ b ∧ b < blocksI N S) := by simp only [hasB, Bool.and_eq_true, decide_eq_true_eq]
  rw [e]
  by_cases h : rightB N S = true
  · rw [show blocksI N S = S * (N - 1) from if_pos h]
    exact ⟨fun x => ⟨h, x⟩, fun x => x.2⟩
  · rw [show blocksI N S = 0 from if_neg h]
    exact ⟨fun x => by omega, fun x => absurd x.1 h⟩
theorem row_new (w : World) (cs : List Value) (t : TypeId) : Row (w.alloc (.cells cs.toArray t)) w.heap.size cs := by
  refine ⟨by simp, fun j u hj => ⟨?_, by simp⟩⟩
  have h := reads_lit w cs t cs.length rfl
  obtain ⟨b, o, e, _, hc⟩ := h.2 (by have := (List.getElem?_eq_some_iff.1 hj).1; omega)
  simp only [Option.some.injEq, Addr.mk.injEq] at e
  obtain ⟨rfl, rfl, _⟩ := e
  have := hc j u hj
  rwa [Nat.zero_add] at this

set_option maxRecDepth 100000 in
set_option maxHeartbeats 1600000 in
theorem ref05_of (N S b : Int) (w : World) : Calls Try.prog 40 #[.agg #[.int .i64 N, .int .i64 S], .int .i64 b] w fun e w' => e = .returned (ofV N S b) ∧ Below w.heap.size w w' := by
  cases h : hasB N S b with
  | true =>
    rw [ofV_yes h]
    obtain ⟨hr, b0, b1⟩ := has_iff.1 h
    obtain ⟨hN, hS1, hS8⟩ := right_cases hr
    have C1 := Lib.hid (fun w' => ref05_blocks_val N S w' _ (if_pos hr))
    have d1 : decide (b < 0) = false := by simp; omega
    have C2 := Lib.hid (fun (s c : Int) (hs0 : 0 ≤ s) (hs1 : s < S) (hc0 : 0 ≤ c) (hc1 : c < N) w' => ref05_nodeOf_val N S s c w' ((s + c) % N) (if_pos ⟨hr, hs0, hs1, hc0, hc1⟩))
    obtain ⟨V, hV⟩ : ∃ V, S * (N - 1) = V := ⟨_, rfl⟩
    rw [hV] at C1 b1
    have d2 : decide (V ≤ b) = false := by simp; omega
    have hlt : b / (N - 1) < S := by
      rcases hN with rfl | rfl | rfl | rfl <;> omega
    have hs0 : 0 ≤ b / (N - 1) := Int.ediv_nonneg b0 (by omega)
    have hc0 : 0 ≤ b % (N - 1) := Int.emod_nonneg _ (by omega)
    have hc1 : b % (N - 1) < N := by have := Int.emod_lt_of_pos b (show 0 < N - 1 by omega); omega
    have K := Lib.hid (C2.out _ _ hs0 hlt hc0 hc1)
    clear h hr hV C2
    obtain ⟨q, hq⟩ : ∃ q, b / (N - 1) = q := ⟨_, rfl⟩
    obtain ⟨r, hr⟩ : ∃ r, b % (N - 1) = r := ⟨_, rfl⟩
    obtain ⟨x, hx⟩ : ∃ x, (q + r) % N = x := ⟨_, rfl⟩
    rw [hq, hr, hx] at K
    rw [hq, hr, hx]
    rw [hq] at hlt hs0
    rw [hr] at hc0 hc1
    have hn0 : 0 < N - 1 := by omega
    have hn1 : (N - 1 == 0) = false := by simp; omega
    have hq2 : b.tdiv (N - 1) = q := by rw [Int.tdiv_eq_ediv_of_nonneg b0, hq]
    have hr2 : b.tmod (N - 1) = r := by rw [Int.tmod_eq_emod_of_nonneg b0, hr]
    have hN3 : 3 ≤ N := by omega
    have hN6 : N ≤ 6 := by omega
    have hq8 : q ≤ 8 := by omega
    have hr8 : r ≤ 6 := by omega
    have HQ := Lib.hid hx
    clear hx hN
    go_enter Try.func40, Try.ntmps40
    go_wp2_with fail
    refine (C1.out _).mono ?_
    rintro e w1 ⟨rfl, b2⟩
    have g0 := Geo.boxed w N S 23
    have g1 := (g0.later ((Below.refl _ _).alloc (Nat.le_refl _) (.cells #[.int .i64 0, .int .i64 0, .int .i64 0] 62))).later b2
    have p1 := (row_new (w.alloc (.cells #[.int .i64 N, .int .i64 S] 23)) [.int .i64 0, .int .i64 0, .int .i64 0] 62)
    rw [show (w.alloc (.cells #[.int .i64 N, .int .i64 S] 23)).heap.size = w.heap.size + 1 by simp] at p1
    replace p1 := p1.below b2 p1.lt
    have bb := below_call (((Below.refl w.heap.size w).alloc (Nat.le_refl _) (.cells #[.int .i64 N, .int .i64 S] 23)).alloc (by simp) (.cells #[.int .i64 0, .int .i64 0, .int .i64 0] 62)) b2
    clear b2 g0
    have G1 := Lib.hid g1
    obtain ⟨_, c0, c1⟩ := g1
    go_wp2_with fail
    clear c0 c1
    refine (K.out _).mono ?_
    rintro e w2 ⟨rfl, b3⟩
    replace p1 := p1.below b3 p1.lt
    replace bb := below_call bb b3
    have c0 := p1.cell (j := 0) rfl
    have c1 := p1.cell (j := 1) rfl
    have c2 := p1.cell (j := 2) rfl
    have f0 := p1.free (j := 0) (by simp)
    have f1 := p1.free (j := 1) (by simp)
    have f2 := p1.free (j := 2) (by simp)
    go_wp2
    try simp only [Exit.inBlock, Exit.then]
    refine bodyPost_ret (v := .tuple #[.agg #[.int .i64 q, .int .i64 r, .int .i64 x], .int .i64 0]) (by rw [results_cell_tmp rfl]; go_simp) rfl ⟨rfl, ?_⟩
    exact ((bb.setCell (by simp) _).setCell (by simp) _).setCell (by simp) _
  | false =>
    rw [ofV_no h]
    by_cases hb : b < 0
    · have d1 : decide (b < 0) = true := by simp; omega
      go_enter Try.func40, Try.ntmps40
      go_wp2
      try simp only [Exit.inBlock, Exit.then]
      refine bodyPost_ret (v := .tuple #[.agg #[.int .i64 0, .int .i64 0, .int .i64 0], .int .i64 50]) (by rw [results_cell_tmp rfl]; go_simp) rfl ⟨rfl, ?_⟩
      exact ((Below.refl _ _).alloc (Nat.le_refl _) _).alloc (by simp) _
    · have d1 : decide (b < 0) = false := by simp; omega
      obtain ⟨V, hV⟩ : ∃ V, blocksI N S = V := ⟨_, rfl⟩
      have hVb : V ≤ b := by
        have h2 := h
        simp only [hasB, hV] at h2
        simp at h2
        omega
      have d2 : decide (V ≤ b) = true := by simp; omega
      have C1 := Lib.hid (fun w' => ref05_blocks_val N S w' _ hV)
      clear h hV
      go_enter Try.func40, Try.ntmps40
      go_wp2_with fail
      refine (C1.out _).mono ?_
      rintro e w1 ⟨rfl, b2⟩
      have p1 := (row_new (w.alloc (.cells #[.int .i64 N, .int .i64 S] 23)) [.int .i64 0, .int .i64 0, .int .i64 0] 62)
      rw [show (w.alloc (.cells #[.int .i64 N, .int .i64 S] 23)).heap.size = w.heap.size + 1 by simp] at p1
      replace p1 := p1.below b2 p1.lt
      have bb := below_call (((Below.refl w.heap.size w).alloc (Nat.le_refl _) (.cells #[.int .i64 N, .int .i64 S] 23)).alloc (by simp) (.cells #[.int .i64 0, .int .i64 0, .int .i64 0] 62)) b2
      clear b2
      have c0 := p1.cell (j := 0) rfl
      have c1 := p1.cell (j := 1) rfl
      have c2 := p1.cell (j := 2) rfl
      have f0 := p1.free (j := 0) (by simp)
      have f1 := p1.free (j := 1) (by simp)
      have f2 := p1.free (j := 2) (by simp)
      go_wp2
      try simp only [Exit.inBlock, Exit.then]
      refine bodyPost_ret (v := .tuple #[.agg #[.int .i64 0, .int .i64 0, .int .i64 0], .int .i64 50]) (by rw [results_cell_tmp rfl]; go_simp) rfl ⟨rfl, ?_⟩
      exact ((bb.setCell (by simp) _).setCell (by simp) _).setCell (by simp) _

theorem node_in {N S st c : Int} (h : 0 ≤ nodeI N S st c) : rightB N S = true ∧ 0 ≤ st ∧ st < S ∧ 0 ≤ c ∧ c < N := by
  by_cases hc : rightB N S = true ∧ 0 ≤ st ∧ st < S ∧ 0 ≤ c ∧ c < N
  · exact hc
  · rw [show nodeI N S st c = -1 from if_neg hc] at h
    omega
theorem node_is {N S st c : Int} (h : rightB N S = true ∧ 0 ≤ st ∧ st < S ∧ 0 ≤ c ∧ c < N) : nodeI N S st c = (st + c) % N ∧ 0 ≤ (st + c) % N ∧ (st + c) % N < N := by
  have := (right_iff N S).1 h.1
  exact ⟨if_pos h, Int.emod_nonneg _ (by omega), Int.emod_lt_of_pos _ (by omega)⟩

set_option maxRecDepth 100000 in
set_option maxHeartbeats 1600000 in
theorem ref05_block (N S st c : Int) (w : World) : Calls Try.prog 26 #[.agg #[.int .i64 N, .int .i64 S], .int .i64 st, .int .i64 c] w fun e w' => e = .returned (.tuple #[.int .i64 (numB N S st c), .bool (isB N S st c)]) ∧ Below w.heap.size w w' := by
  obtain ⟨x, hx⟩ : ∃ x, nodeI N S st c = x := ⟨_, rfl⟩
  have C1 := Lib.hid (fun w' => ref05_nodeOf_val N S st c w' x hx)
  by_cases hx0 : 0 ≤ x
  · have d1 : decide (x < 0) = false := by simp; omega
    obtain ⟨hr, s0, s1, q0, q1⟩ := node_in (by rw [hx]; exact hx0)
    have C2 := Lib.hid (fun w' => ref05_parity_val N S w' (N - 1) (if_pos hr))
    have hrc := right_cases hr
    by_cases hc : c = N - 1
    · have e1 : isB N S st c = false := by simp [isB, hc]
      have e2 : numB N S st c = 0 := by simp [numB, e1]
      rw [e1, e2]
      have e3 : (c == N - 1) = true := by simp [hc]
      clear hx e1 e2 hr hrc hc
      go_enter Try.func26, Try.ntmps26
      go_wp2_with fail
      refine (C1.out _).mono ?_
      rintro e w1 ⟨rfl, b1⟩
      have g1 := (Geo.boxed w N S 23).later b1
      replace b1 := below_boxed b1
      obtain ⟨_, c0, c1⟩ := g1
      go_wp2_with fail
      refine (C2.out _).mono ?_
      rintro e w2 ⟨rfl, b2⟩
      go_wp2
      go_ret2
      exact ⟨rfl, below_call b1 b2⟩
    · have e1 : isB N S st c = true := by simp [isB, hx, hx0, hc]
      have e2 : numB N S st c = st * (N - 1) + c := by simp [numB, e1]
      rw [e1, e2]
      have e3 : (c == N - 1) = false := by simp [hc]
      obtain ⟨hN, hS1, hS8⟩ := hrc
      clear hx e1 e2 hr hc
      obtain ⟨m, hm⟩ : ∃ m, st * (N - 1) = m := ⟨_, rfl⟩
      have hm0 : 0 ≤ m ∧ m ≤ 40 := by rw [← hm]; rcases hN with rfl | rfl | rfl | rfl <;> omega
      have hm1 : 0 ≤ m := hm0.1
      have hm2 : m ≤ 40 := hm0.2
      have hN3 : 3 ≤ N := by omega
      have hN6 : N ≤ 6 := by omega
      rw [hm]
      clear hN hm0
      go_enter Try.func26, Try.ntmps26
      go_wp2_with fail
      refine (C1.out _).mono ?_
      rintro e w1 ⟨rfl, b1⟩
      have g1 := (Geo.boxed w N S 23).later b1
      replace b1 := below_boxed b1
      have G1 := Lib.hid g1
      obtain ⟨_, c0, c1⟩ := g1
      go_wp2_with fail
      refine (C2.out _).mono ?_
      rintro e w2 ⟨rfl, b2⟩
      have g2 := G1.out.later b2
      clear c0 c1
      obtain ⟨_, c0, c1⟩ := g2
      go_wp2
      go_ret2
      exact ⟨rfl, below_call b1 b2⟩
  · have d1 : decide (x < 0) = true := by simp; omega
    have e1 : isB N S st c = false := by simp [isB, hx]; omega
    have e2 : numB N S st c = 0 := by simp [numB, e1]
    rw [e1, e2]
    clear hx e1 e2
    go_enter Try.func26, Try.ntmps26
    go_wp2_with fail
    refine (C1.out _).mono ?_
    rintro e w1 ⟨rfl, b1⟩
    go_wp2
    go_ret2
    exact ⟨rfl, below_boxed b1⟩
end Go.Proofs.Ythckkmoafobmnaa

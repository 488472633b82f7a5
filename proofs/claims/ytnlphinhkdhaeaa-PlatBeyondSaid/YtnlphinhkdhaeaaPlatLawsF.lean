/- The statements of layer 5: walks, continued: what there is not. -/
import Derived.Test.YtnlphinhkdhaeaaPlatLawsD
namespace Go.Proofs.Ytnlphinhkdhaeaa
open Go.RowKit Go.ChangeShapes Go.WideShapes

theorem node_sign (N S st c : Int) (hr : rightB N S = true) : (decide (0 ≤ nodeI N S st c) : Bool) = decide (0 ≤ st ∧ st < S ∧ 0 ≤ c ∧ c < N) := by
  refine decide_eq_decide.2 ⟨fun h => (node_in h).2, fun h => ?_⟩
  have := node_is (N := N) (S := S) (st := st) (c := c) ⟨hr, h⟩
  rw [this.1]
  exact this.2.1
theorem col_sign (N S st c : Int) (hr : rightB N S = true) : (decide (0 ≤ colI N S st c) : Bool) = decide (0 ≤ st ∧ st < S ∧ 0 ≤ c ∧ c < N) := by
  refine decide_eq_decide.2 ⟨fun h => ?_, fun h => ?_⟩
  · by_cases hc : rightB N S = true ∧ 0 ≤ st ∧ st < S ∧ 0 ≤ c ∧ c < N
    · exact hc.2
    · rw [show colI N S st c = -1 from if_neg hc] at h
      omega
  · rw [show colI N S st c = (c - st) % N from if_pos ⟨hr, h⟩]
    exact Int.emod_nonneg _ (by omega)

set_option maxRecDepth 100000 in
set_option maxHeartbeats 3200000 in
/-- PlatBeyond -/
theorem platBeyond_any (ra rb n : Int) (w : World) (hra : (Lit.int .i64 ra).wf = true) (hrb : (Lit.int .i64 rb).wf = true) (hn : (Lit.int .i64 n).wf = true) :
    Holds Try.prog 10 #[.agg #[.int .i64 ra, .int .i64 rb], .int .i64 n] w := by
  unfold Holds
  go_enter Try.func10, Try.ntmps10
  go_wp2_with fail
  refine (awake05 _).mono ?_
  rintro e w1 ⟨rfl, b1⟩
  have g1 := (Geo.boxed w ra rb 23).later b1
  replace b1 := below_boxed b1
  obtain ⟨_, c0, c1⟩ := g1
  go_wp2_with fail
  clear c0 c1
  refine (fit05 ra rb _ hra hrb).mono ?_
  rintro e w2 ⟨N, S, n3, n6, s1, s8, rfl, b2⟩
  replace b2 := below_call b1 b2
  have g3 := Geo.boxed w2 N S 23
  have b3 := b2.alloc b2.size (.cells #[.int .i64 N, .int .i64 S] 23)
  have hN : (Lit.int .i64 N).wf = true := WalkArith.wf_i64 (by omega)
  have hS : (Lit.int .i64 S).wf = true := WalkArith.wf_i64 (by omega)
  have hr : rightB N S = true := (right_iff N S).2 ⟨n3, n6, s1, s8⟩
  have HN := Lib.hid hN
  have HS := Lib.hid hS
  have HR := Lib.hid hr
  have G3 := Lib.hid g3
  clear hN hS hr b1 b2
  obtain ⟨V, hV⟩ : ∃ V, S * (N - 1) = V := ⟨_, rfl⟩
  have mb := many_blocks n3 n6 s1 s8
  rw [hV] at mb
  obtain ⟨mb0, mb1⟩ := mb
  have C0 := Lib.hid (fun w' => plat_blocks_val N S w' V (by rw [show blocksI N S = S * (N - 1) from if_pos HR.out, hV]))
  obtain ⟨o1, ho1⟩ : ∃ x, ofS N S n = x := ⟨_, rfl⟩
  obtain ⟨o2, ho2⟩ : ∃ x, ofC N S n = x := ⟨_, rfl⟩
  obtain ⟨o3, ho3⟩ : ∃ x, ofN N S n = x := ⟨_, rfl⟩
  obtain ⟨o4, ho4⟩ : ∃ x, ofE N S n = x := ⟨_, rfl⟩
  have hVV : ofV N S n = .tuple #[.agg #[.int .i64 o1, .int .i64 o2, .int .i64 o3], .int .i64 o4] := by unfold ofV; rw [ho1, ho2, ho3, ho4]
  have C1 := Lib.hid (fun w' => plat_of_val N S n w' _ HN.out HS.out hn hVV)
  have hof : (0 ≤ n ∧ n < V ∧ o4 = 0) ∨ (¬ (0 ≤ n ∧ n < V) ∧ o1 = 0 ∧ o2 = 0 ∧ o3 = 0 ∧ o4 = 50) := by
    by_cases h : hasB N S n = true
    · have := (has_iff.1 h).2
      rw [hV] at this
      exact Or.inl ⟨this.1, this.2, by rw [← ho4]; exact if_pos h⟩
    · refine Or.inr ⟨fun hh => h (has_iff.2 ⟨HR.out, hh.1, by rw [hV]; exact hh.2⟩), ?_, ?_, ?_, ?_⟩
      · rw [← ho1]; exact if_neg h
      · rw [← ho2]; exact if_neg h
      · rw [← ho3]; exact if_neg h
      · rw [← ho4]; exact if_neg h
  obtain ⟨n1, hn1⟩ : ∃ x, numB N S n 0 = x := ⟨_, rfl⟩
  obtain ⟨i1, hi1⟩ : ∃ x, isB N S n 0 = x := ⟨_, rfl⟩
  obtain ⟨n2, hn2⟩ : ∃ x, numB N S 0 n = x := ⟨_, rfl⟩
  obtain ⟨i2, hi2⟩ : ∃ x, isB N S 0 n = x := ⟨_, rfl⟩
  obtain ⟨y1, hy1⟩ : ∃ x, nodeI N S n 0 = x := ⟨_, rfl⟩
  obtain ⟨y2, hy2⟩ : ∃ x, nodeI N S 0 n = x := ⟨_, rfl⟩
  obtain ⟨y3, hy3⟩ : ∃ x, colI N S n 0 = x := ⟨_, rfl⟩
  obtain ⟨y4, hy4⟩ : ∃ x, colI N S 0 n = x := ⟨_, rfl⟩
  have z1 := node_sign N S n 0 HR.out
  have z2 := node_sign N S 0 n HR.out
  have z3 := col_sign N S n 0 HR.out
  have z4 := col_sign N S 0 n HR.out
  have z5 : i1 = decide (0 ≤ n ∧ n < S ∧ (0 : Int) ≤ 0 ∧ 0 < N) := by
    rw [← hi1]
    unfold isB
    rw [z1, show decide ((0 : Int) = N - 1) = false from decide_eq_false (by omega)]
    simp
  have z6 : i2 = (decide ((0 : Int) ≤ 0 ∧ 0 < S ∧ 0 ≤ n ∧ n < N) && !decide (n = N - 1)) := by
    rw [← hi2]
    unfold isB
    rw [z2]
  rw [hy1] at z1
  rw [hy2] at z2
  rw [hy3] at z3
  rw [hy4] at z4
  have w0 : (Lit.int .i64 0).wf = true := by decide
  have C2 := Lib.hid (fun w' => plat_block_val N S n 0 w' _ _ HN.out HS.out hn w0 hn1 hi1)
  have C3 := Lib.hid (fun w' => plat_block_val N S 0 n w' _ _ HN.out HS.out w0 hn hn2 hi2)
  have C4 := Lib.hid (fun w' => plat_nodeOf_val N S n 0 w' _ HN.out HS.out hn w0 hy1)
  have C5 := Lib.hid (fun w' => plat_nodeOf_val N S 0 n w' _ HN.out HS.out w0 hn hy2)
  have C6 := Lib.hid (fun w' => plat_columnOf_val N S n 0 w' _ HN.out HS.out hn w0 hy3)
  have C7 := Lib.hid (fun w' => plat_columnOf_val N S 0 n w' _ HN.out HS.out w0 hn hy4)
  -- the tests, in the ways that there are
  obtain ⟨tS, htS⟩ : ∃ t : Bool, decide (n < S) = t := ⟨_, rfl⟩
  obtain ⟨tN, htN⟩ : ∃ t : Bool, decide (n < N) = t := ⟨_, rfl⟩
  obtain ⟨tP, htP⟩ : ∃ t : Bool, (n == N - 1) = t := ⟨_, rfl⟩
  have htP2 : decide (n = N - 1) = tP := by rw [← htP]; rfl
  have htP3 : (n != N - 1) = (!tP) := by rw [bne, htP]
  have hcase : (decide (0 ≤ n) = false ∧ i1 = false ∧ i2 = false ∧ decide (0 ≤ y1) = false ∧ decide (0 ≤ y2) = false ∧ decide (0 ≤ y3) = false ∧ decide (0 ≤ y4) = false) ∨
      (decide (0 ≤ n) = true ∧ i1 = tS ∧ i2 = (tN && !tP) ∧ decide (0 ≤ y1) = tS ∧ decide (0 ≤ y2) = tN ∧ decide (0 ≤ y3) = tS ∧ decide (0 ≤ y4) = tN) := by
    by_cases h : 0 ≤ n
    · right
      have e1 : decide (0 ≤ n ∧ n < S ∧ (0 : Int) ≤ 0 ∧ 0 < N) = tS := by rw [← htS]; exact decide_eq_decide.2 ⟨fun x => x.2.1, fun x => ⟨h, x, Int.le_refl _, by omega⟩⟩
      have e2 : decide ((0 : Int) ≤ 0 ∧ 0 < S ∧ 0 ≤ n ∧ n < N) = tN := by rw [← htN]; exact decide_eq_decide.2 ⟨fun x => x.2.2.2, fun x => ⟨Int.le_refl _, by omega, h, x⟩⟩
      rw [e1] at z1 z3 z5
      rw [e2] at z2 z4 z6
      rw [htP2] at z6
      exact ⟨decide_eq_true h, z5, z6, z1, z2, z3, z4⟩
    · left
      have e1 : decide (0 ≤ n ∧ n < S ∧ (0 : Int) ≤ 0 ∧ 0 < N) = false := decide_eq_false (fun x => h x.1)
      have e2 : decide ((0 : Int) ≤ 0 ∧ 0 < S ∧ 0 ≤ n ∧ n < N) = false := decide_eq_false (fun x => h x.2.2.1)
      rw [e1] at z1 z3 z5
      rw [e2] at z2 z4 z6
      exact ⟨decide_eq_false h, z5, by simpa using z6, z1, z2, z3, z4⟩
  have hof2 : (decide (0 ≤ n) = true ∧ decide (n < V) = true ∧ o4 = 0) ∨ (decide (0 ≤ n) = false ∧ o1 = 0 ∧ o2 = 0 ∧ o3 = 0 ∧ o4 = 50) ∨ (decide (0 ≤ n) = true ∧ decide (n < V) = false ∧ o1 = 0 ∧ o2 = 0 ∧ o3 = 0 ∧ o4 = 50) := by
    rcases hof with ⟨h1, h2, h3⟩ | ⟨h1, h2⟩
    · exact Or.inl ⟨decide_eq_true h1, decide_eq_true h2, h3⟩
    · by_cases h : 0 ≤ n
      · exact Or.inr (Or.inr ⟨decide_eq_true h, decide_eq_false (fun x => h1 ⟨h, x⟩), h2⟩)
      · exact Or.inr (Or.inl ⟨decide_eq_false h, h2⟩)
  clear ho1 ho2 ho3 ho4 hVV hof hn1 hi1 hn2 hi2 hy1 hy2 hy3 hy4 z1 z2 z3 z4 z5 z6 hV HN HS HR w0 hn
  have hways : (decide (0 ≤ n) = true ∧ decide (n < V) = true ∧ o4 = 0 ∧ i1 = tS ∧ i2 = (tN && !tP) ∧ decide (0 ≤ y1) = tS ∧ decide (0 ≤ y2) = tN ∧ decide (0 ≤ y3) = tS ∧ decide (0 ≤ y4) = tN) ∨
      (decide (0 ≤ n) = false ∧ o1 = 0 ∧ o2 = 0 ∧ o3 = 0 ∧ o4 = 50 ∧ i1 = false ∧ i2 = false ∧ decide (0 ≤ y1) = false ∧ decide (0 ≤ y2) = false ∧ decide (0 ≤ y3) = false ∧ decide (0 ≤ y4) = false) ∨
      (decide (0 ≤ n) = true ∧ decide (n < V) = false ∧ o1 = 0 ∧ o2 = 0 ∧ o3 = 0 ∧ o4 = 50 ∧ i1 = tS ∧ i2 = (tN && !tP) ∧ decide (0 ≤ y1) = tS ∧ decide (0 ≤ y2) = tN ∧ decide (0 ≤ y3) = tS ∧ decide (0 ≤ y4) = tN) := by
    rcases hof2 with ⟨h1, h2, h3⟩ | ⟨h1, h2⟩ | ⟨h1, h2, h3, h4, h5, h6⟩ <;> rcases hcase with ⟨k1, k2⟩ | ⟨k1, k2⟩
    · rw [h1] at k1; cases k1
    · exact Or.inl ⟨h1, h2, h3, k2⟩
    · exact Or.inr (Or.inl ⟨h1, h2.1, h2.2.1, h2.2.2.1, h2.2.2.2, k2⟩)
    · rw [h1] at k1; cases k1
    · rw [h1] at k1; cases k1
    · exact Or.inr (Or.inr ⟨h1, h2, h3, h4, h5, h6, k2⟩)
  clear hof2 hcase
  obtain ⟨_, c0, c1⟩ := g3
  go_wp2_with fail
  refine (C1.out _).mono ?_
  rintro e w4 ⟨rfl, b4⟩
  have g4 := G3.out.later b4
  replace b4 := below_call b3 b4
  have p5 := Plc.boxed w4 o1 o2 o3 26
  have g5 := g4.later ((Below.refl _ _).alloc (Nat.le_refl _) (.cells #[.int .i64 o1, .int .i64 o2, .int .i64 o3] 26))
  have b5 := b4.alloc b4.size (.cells #[.int .i64 o1, .int .i64 o2, .int .i64 o3] 26)
  clear c0 c1 G3 C1 g4 b3 b4
  have G5 := Lib.hid g5
  have P5 := Lib.hid p5
  clear g5 p5
  rcases hways with ⟨h1, h2, rfl, rfl, rfl, h3, h4, h5, h6⟩ | ⟨h1, rfl, rfl, rfl, rfl, rfl, rfl, h3, h4, h5, h6⟩ | ⟨h1, h2, rfl, rfl, rfl, rfl, rfl, rfl, h3, h4, h5, h6⟩
  · cases tN
    all_goals
      obtain ⟨_, c0, c1⟩ := G5.out
      obtain ⟨_, p0, p1, p2⟩ := P5.out
      go_wp2_with fail
      refine (C0.out _).mono ?_
      rintro e w6 ⟨rfl, b6⟩
      have g6 := G5.out.later b6
      have p6 := P5.out.later b6
      replace b6 := below_call b5 b6
      have G6 := Lib.hid g6
      clear c0 c1 p0 p1 p2
      obtain ⟨_, c0, c1⟩ := g6
      obtain ⟨_, p0, p1, p2⟩ := p6
      go_wp2_with fail
      clear c0 c1 p0 p1 p2
      refine (C2.out _).mono ?_
      rintro e w7 ⟨rfl, b7⟩
      have g7 := G6.out.later b7
      replace b7 := below_call b6 b7
      have G7 := Lib.hid g7
      obtain ⟨_, c0, c1⟩ := g7
      go_wp2_with fail
      clear c0 c1
      refine (C3.out _).mono ?_
      rintro e w8 ⟨rfl, b8⟩
      have g8 := G7.out.later b8
      replace b8 := below_call b7 b8
      have G8 := Lib.hid g8
      obtain ⟨_, c0, c1⟩ := g8
      go_wp2_with fail
      clear c0 c1
      refine (C4.out _).mono ?_
      rintro e w9 ⟨rfl, b9⟩
      have g9 := G8.out.later b9
      replace b9 := below_call b8 b9
      have G9 := Lib.hid g9
      obtain ⟨_, c0, c1⟩ := g9
      go_wp2_with fail
      clear c0 c1
      refine (C5.out _).mono ?_
      rintro e w10 ⟨rfl, b10⟩
      have g10 := G9.out.later b10
      replace b10 := below_call b9 b10
      have G10 := Lib.hid g10
      obtain ⟨_, c0, c1⟩ := g10
      go_wp2_with fail
      clear c0 c1
      refine (C6.out _).mono ?_
      rintro e w11 ⟨rfl, b11⟩
      have g11 := G10.out.later b11
      replace b11 := below_call b10 b11
      have G11 := Lib.hid g11
      obtain ⟨_, c0, c1⟩ := g11
      go_wp2_with fail
      clear c0 c1
      refine (C7.out _).mono ?_
      rintro e w12 ⟨rfl, b12⟩
      have g12 := G11.out.later b12
      replace b12 := below_call b11 b12
      have G12 := Lib.hid g12
      obtain ⟨_, c0, c1⟩ := g12
      go_wp2
      go_ret
      exact ⟨by simp [*], b12⟩
  · skip
    obtain ⟨_, c0, c1⟩ := G5.out
    obtain ⟨_, p0, p1, p2⟩ := P5.out
    go_wp2_with fail
    clear c0 c1 p0 p1 p2
    refine (C2.out _).mono ?_
    rintro e w7 ⟨rfl, b7⟩
    have g7 := G5.out.later b7
    replace b7 := below_call b5 b7
    have G7 := Lib.hid g7
    obtain ⟨_, c0, c1⟩ := g7
    go_wp2_with fail
    clear c0 c1
    refine (C3.out _).mono ?_
    rintro e w8 ⟨rfl, b8⟩
    have g8 := G7.out.later b8
    replace b8 := below_call b7 b8
    have G8 := Lib.hid g8
    obtain ⟨_, c0, c1⟩ := g8
    go_wp2_with fail
    clear c0 c1
    refine (C4.out _).mono ?_
    rintro e w9 ⟨rfl, b9⟩
    have g9 := G8.out.later b9
    replace b9 := below_call b8 b9
    have G9 := Lib.hid g9
    obtain ⟨_, c0, c1⟩ := g9
    go_wp2_with fail
    clear c0 c1
    refine (C5.out _).mono ?_
    rintro e w10 ⟨rfl, b10⟩
    have g10 := G9.out.later b10
    replace b10 := below_call b9 b10
    have G10 := Lib.hid g10
    obtain ⟨_, c0, c1⟩ := g10
    go_wp2_with fail
    clear c0 c1
    refine (C6.out _).mono ?_
    rintro e w11 ⟨rfl, b11⟩
    have g11 := G10.out.later b11
    replace b11 := below_call b10 b11
    have G11 := Lib.hid g11
    obtain ⟨_, c0, c1⟩ := g11
    go_wp2_with fail
    clear c0 c1
    refine (C7.out _).mono ?_
    rintro e w12 ⟨rfl, b12⟩
    have g12 := G11.out.later b12
    replace b12 := below_call b11 b12
    have G12 := Lib.hid g12
    obtain ⟨_, c0, c1⟩ := g12
    go_wp2
    go_ret
    exact ⟨by simp [*], b12⟩
  · cases tN
    all_goals
      obtain ⟨_, c0, c1⟩ := G5.out
      obtain ⟨_, p0, p1, p2⟩ := P5.out
      go_wp2_with fail
      refine (C0.out _).mono ?_
      rintro e w6 ⟨rfl, b6⟩
      have g6 := G5.out.later b6
      have p6 := P5.out.later b6
      replace b6 := below_call b5 b6
      have G6 := Lib.hid g6
      clear c0 c1 p0 p1 p2
      obtain ⟨_, c0, c1⟩ := g6
      obtain ⟨_, p0, p1, p2⟩ := p6
      go_wp2_with fail
      clear c0 c1 p0 p1 p2
      refine (C2.out _).mono ?_
      rintro e w7 ⟨rfl, b7⟩
      have g7 := G6.out.later b7
      replace b7 := below_call b6 b7
      have G7 := Lib.hid g7
      obtain ⟨_, c0, c1⟩ := g7
      go_wp2_with fail
      clear c0 c1
      refine (C3.out _).mono ?_
      rintro e w8 ⟨rfl, b8⟩
      have g8 := G7.out.later b8
      replace b8 := below_call b7 b8
      have G8 := Lib.hid g8
      obtain ⟨_, c0, c1⟩ := g8
      go_wp2_with fail
      clear c0 c1
      refine (C4.out _).mono ?_
      rintro e w9 ⟨rfl, b9⟩
      have g9 := G8.out.later b9
      replace b9 := below_call b8 b9
      have G9 := Lib.hid g9
      obtain ⟨_, c0, c1⟩ := g9
      go_wp2_with fail
      clear c0 c1
      refine (C5.out _).mono ?_
      rintro e w10 ⟨rfl, b10⟩
      have g10 := G9.out.later b10
      replace b10 := below_call b9 b10
      have G10 := Lib.hid g10
      obtain ⟨_, c0, c1⟩ := g10
      go_wp2_with fail
      clear c0 c1
      refine (C6.out _).mono ?_
      rintro e w11 ⟨rfl, b11⟩
      have g11 := G10.out.later b11
      replace b11 := below_call b10 b11
      have G11 := Lib.hid g11
      obtain ⟨_, c0, c1⟩ := g11
      go_wp2_with fail
      clear c0 c1
      refine (C7.out _).mono ?_
      rintro e w12 ⟨rfl, b12⟩
      have g12 := G11.out.later b12
      replace b12 := below_call b11 b12
      have G12 := Lib.hid g12
      obtain ⟨_, c0, c1⟩ := g12
      go_wp2
      go_ret
      exact ⟨by simp [*], b12⟩
end Go.Proofs.Ytnlphinhkdhaeaa

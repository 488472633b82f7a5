/- The statements of layer 5: walks, continued: blocks and their order. -/
import Derived.Test.YtnlphinhkdhaeaaPlatLawsC
namespace Go.Proofs.Ytnlphinhkdhaeaa
open Go.RowKit Go.ChangeShapes Go.WideShapes

theorem order_is {N a b : Int} (n3 : 3 ≤ N) (n6 : N ≤ 6) (_a0 : 0 ≤ a) (_b0 : 0 ≤ b) : (a < b ↔ (a / (N - 1) < b / (N - 1) ∨ (a / (N - 1) = b / (N - 1) ∧ a % (N - 1) < b % (N - 1)))) := by
  have hN : N = 3 ∨ N = 4 ∨ N = 5 ∨ N = 6 := by omega
  rcases hN with rfl | rfl | rfl | rfl <;> omega
theorem block_back {N S a : Int} (n3 : 3 ≤ N) (n6 : N ≤ 6) (a0 : 0 ≤ a) (a1 : a < S * (N - 1)) : a / (N - 1) * (N - 1) + a % (N - 1) = a ∧ 0 ≤ a / (N - 1) ∧ a / (N - 1) < S ∧ 0 ≤ a % (N - 1) ∧ a % (N - 1) < N - 1 := by
  have hN : N = 3 ∨ N = 4 ∨ N = 5 ∨ N = 6 := by omega
  rcases hN with rfl | rfl | rfl | rfl <;> omega
theorem many_blocks {N S : Int} (n3 : 3 ≤ N) (n6 : N ≤ 6) (s1 : 1 ≤ S) (s8 : S ≤ 8) : 2 ≤ S * (N - 1) ∧ S * (N - 1) ≤ 40 := by
  have hN : N = 3 ∨ N = 4 ∨ N = 5 ∨ N = 6 := by omega
  rcases hN with rfl | rfl | rfl | rfl <;> omega

set_option maxRecDepth 100000 in
set_option maxHeartbeats 3200000 in
/-- PlatOrder -/
theorem platOrder_any (ra rb a0 b0 : Int) (w : World) (hra : (Lit.int .i64 ra).wf = true) (hrb : (Lit.int .i64 rb).wf = true) (ha : (Lit.int .i64 a0).wf = true) (hb : (Lit.int .i64 b0).wf = true) :
    Holds Try.prog 8 #[.agg #[.int .i64 ra, .int .i64 rb], .int .i64 a0, .int .i64 b0] w := by
  unfold Holds
  go_enter Try.func8, Try.ntmps8
  go_wp2_with fail
  refine (awake05 _).mono ?_
  rintro e w1 ⟨rfl, b1⟩
  have g1 := (Geo.boxed w ra rb 23).later b1
  replace b1 := below_boxed b1
  obtain ⟨_, c0, c1⟩ := g1
  go_wp2_with fail
  clear c0 c1
  refine (fit05 ra rb _ hra hrb).mono ?_
  rintro e w2 ⟨N, S, n3, n6, s1, s8, rfl, b2⟩
  replace b2 := below_call b1 b2
  have g3 := Geo.boxed w2 N S 23
  have b3 := b2.alloc b2.size (.cells #[.int .i64 N, .int .i64 S] 23)
  have hN : (Lit.int .i64 N).wf = true := WalkArith.wf_i64 (by omega)
  have hS : (Lit.int .i64 S).wf = true := WalkArith.wf_i64 (by omega)
  have hr : rightB N S = true := (right_iff N S).2 ⟨n3, n6, s1, s8⟩
  have HN := Lib.hid hN
  have HS := Lib.hid hS
  have HR := Lib.hid hr
  have G3 := Lib.hid g3
  clear hN hS hr b1 b2
  obtain ⟨V, hV⟩ : ∃ V, S * (N - 1) = V := ⟨_, rfl⟩
  have mb := many_blocks n3 n6 s1 s8
  rw [hV] at mb
  obtain ⟨mb0, mb1⟩ := mb
  have C0 := Lib.hid (fun w' => plat_blocks_val N S w' V (by rw [show blocksI N S = S * (N - 1) from if_pos HR.out, hV]))
  obtain ⟨a, haa⟩ : ∃ a, pickI a0 V = a := ⟨_, rfl⟩
  obtain ⟨b, hbb⟩ : ∃ b, pickI b0 V = b := ⟨_, rfl⟩
  have P1 := Lib.hid (fun w' => pick05 a0 V w' ha (by omega) (by omega))
  have P2 := Lib.hid (fun w' => pick05 b0 V w' hb (by omega) (by omega))
  have i1 := pickI_in a0 V (by omega)
  have i2 := pickI_in b0 V (by omega)
  rw [haa] at P1 i1
  rw [hbb] at P2 i2
  obtain ⟨i1, j1⟩ := i1
  obtain ⟨i2, j2⟩ := i2
  have wa : (Lit.int .i64 a).wf = true := WalkArith.wf_i64 (by omega)
  have wb : (Lit.int .i64 b).wf = true := WalkArith.wf_i64 (by omega)
  have hpa : ofV N S a = .tuple #[.agg #[.int .i64 (a / (N - 1)), .int .i64 (a % (N - 1)), .int .i64 ((a / (N - 1) + a % (N - 1)) % N)], .int .i64 0] := ofV_yes (has_iff.2 ⟨HR.out, i1, by rw [hV]; exact j1⟩)
  have hpb : ofV N S b = .tuple #[.agg #[.int .i64 (b / (N - 1)), .int .i64 (b % (N - 1)), .int .i64 ((b / (N - 1) + b % (N - 1)) % N)], .int .i64 0] := ofV_yes (has_iff.2 ⟨HR.out, i2, by rw [hV]; exact j2⟩)
  have ord := order_is n3 n6 i1 i2
  have ka := block_back n3 n6 i1 (by rw [hV]; exact j1)
  have kb := block_back n3 n6 i2 (by rw [hV]; exact j2)
  obtain ⟨qa, hqa⟩ : ∃ x, a / (N - 1) = x := ⟨_, rfl⟩
  obtain ⟨qb, hqb⟩ : ∃ x, b / (N - 1) = x := ⟨_, rfl⟩
  obtain ⟨ra', hra'⟩ : ∃ x, a % (N - 1) = x := ⟨_, rfl⟩
  obtain ⟨rb', hrb'⟩ : ∃ x, b % (N - 1) = x := ⟨_, rfl⟩
  rw [hqa, hra'] at hpa ka ord
  rw [hqb, hrb'] at hpb kb ord
  have una := nodes_unlike n3 n6 ka.2.1 (by omega) ka.2.2.2.1 (by omega) kb.2.2.2.1 (by omega)
  obtain ⟨na, hna⟩ : ∃ x, (qa + ra') % N = x := ⟨_, rfl⟩
  obtain ⟨nb, hnb⟩ : ∃ x, (qb + rb') % N = x := ⟨_, rfl⟩
  rw [hna] at hpa una
  rw [hnb] at hpb
  have C1 := Lib.hid (fun w' => plat_of_val N S a w' _ HN.out HS.out wa hpa)
  have C2 := Lib.hid (fun w' => plat_of_val N S b w' _ HN.out HS.out wb hpb)
  have hlt2 : decide (V < 2) = false := by simp; omega
  have hcase : (decide (a < b) = true ∧ decide (qa < qb) = true) ∨ (decide (qa < qb) = false ∧ (qa == qb) = true ∧ decide (a < b) = decide (ra' < rb')) ∨ (decide (a < b) = false ∧ decide (qa < qb) = false ∧ (qa == qb) = false) := by
    by_cases h1 : qa < qb
    · exact Or.inl ⟨decide_eq_true (ord.2 (Or.inl h1)), decide_eq_true h1⟩
    · by_cases h2 : qa = qb
      · refine Or.inr (Or.inl ⟨decide_eq_false h1, by simp [h2], decide_eq_decide.2 (ord.trans ⟨fun h => ?_, fun h => Or.inr ⟨h2, h⟩⟩)⟩)
        rcases h with h | h
        · exact absurd h h1
        · exact h.2
      · refine Or.inr (Or.inr ⟨decide_eq_false (fun h => ?_), decide_eq_false h1, by simp [h2]⟩)
        rcases ord.1 h with h | h
        · exact h1 h
        · exact h2 h.1
  clear hpa hpb ord ka kb hqa hqb hra' hrb' una hna hnb haa hbb hV wa wb HN HS HR
  obtain ⟨_, c0, c1⟩ := g3
  go_wp2_with fail
  refine (C0.out _).mono ?_
  rintro e w4 ⟨rfl, b4⟩
  have g4 := G3.out.later b4
  replace b4 := below_call b3 b4
  have G4 := Lib.hid g4
  clear c0 c1 G3 C0
  obtain ⟨_, c0, c1⟩ := g4
  go_wp2_with fail
  refine (P1.out _).mono ?_
  rintro e w5 ⟨rfl, rfl⟩
  go_wp2_with fail
  refine (P2.out _).mono ?_
  rintro e w5 ⟨rfl, rfl⟩
  go_wp2_with fail
  clear c0 c1 P1 P2
  refine (C1.out _).mono ?_
  rintro e w5 ⟨rfl, b5⟩
  have g5 := G4.out.later b5
  replace b5 := below_call b4 b5
  have p6 := Plc.boxed w5 qa ra' na 26
  have g6 := g5.later ((Below.refl _ _).alloc (Nat.le_refl _) (.cells #[.int .i64 qa, .int .i64 ra', .int .i64 na] 26))
  have b6 := b5.alloc b5.size (.cells #[.int .i64 qa, .int .i64 ra', .int .i64 na] 26)
  have G6 := Lib.hid g6
  have Q6 := Lib.hid p6
  obtain ⟨_, c0, c1⟩ := g6
  go_wp2_with fail
  clear c0 c1 G4 C1
  refine (C2.out _).mono ?_
  rintro e w7 ⟨rfl, b7⟩
  have g7 := G6.out.later b7
  have p7 := Q6.out.later b7
  replace b7 := below_call b6 b7
  have q8 := Plc.boxed w7 qb rb' nb 26
  have g8 := g7.later ((Below.refl _ _).alloc (Nat.le_refl _) (.cells #[.int .i64 qb, .int .i64 rb', .int .i64 nb] 26))
  have p8 := p7.later ((Below.refl _ _).alloc (Nat.le_refl _) (.cells #[.int .i64 qb, .int .i64 rb', .int .i64 nb] 26))
  have b8 := b7.alloc b7.size (.cells #[.int .i64 qb, .int .i64 rb', .int .i64 nb] 26)
  clear G6 Q6 C2 b3 b4 b5 b6 b7 g5 g7 p6 p7
  obtain ⟨_, c0, c1⟩ := g8
  obtain ⟨_, p0, p1, p2⟩ := p8
  obtain ⟨_, q0, q1, q2⟩ := q8
  rcases hcase with ⟨h1, h2⟩ | ⟨h1, h2, h3⟩ | ⟨h1, h2, h3⟩
  all_goals
    go_wp2
    go_ret
    exact ⟨by simp, b8⟩
end Go.Proofs.Ytnlphinhkdhaeaa

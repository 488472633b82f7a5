/- The statements of layer 5: walks, continued: no two blocks in one place. -/
import Derived.Test.YtnlphinhkdhaeaaPlatLawsD
namespace Go.Proofs.Ytnlphinhkdhaeaa
open Go.RowKit Go.ChangeShapes Go.WideShapes

set_option maxRecDepth 100000 in
set_option maxHeartbeats 3200000 in
/-- PlatOnce -/
theorem platOnce_any (ra rb a0 b0 : Int) (w : World) (hra : (Lit.int .i64 ra).wf = true) (hrb : (Lit.int .i64 rb).wf = true) (ha : (Lit.int .i64 a0).wf = true) (hb : (Lit.int .i64 b0).wf = true) :
    Holds Try.prog 5 #[.agg #[.int .i64 ra, .int .i64 rb], .int .i64 a0, .int .i64 b0] w := by
  unfold Holds
  go_enter Try.func5, Try.ntmps5
  go_wp2_with fail
  refine (awake05 _).mono ?_
  rintro e w1 ⟨rfl, b1⟩
  have g1 := (Geo.boxed w ra rb 23).later b1
  replace b1 := below_boxed b1
  obtain ⟨_, c0, c1⟩ := g1
  go_wp2_with fail
  clear c0 c1
  refine (fit05 ra rb _ hra hrb).mono ?_
  rintro e w2 ⟨N, S, n3, n6, s1, s8, rfl, b2⟩
  replace b2 := below_call b1 b2
  have g3 := Geo.boxed w2 N S 23
  have b3 := b2.alloc b2.size (.cells #[.int .i64 N, .int .i64 S] 23)
  have hN : (Lit.int .i64 N).wf = true := WalkArith.wf_i64 (by omega)
  have hS : (Lit.int .i64 S).wf = true := WalkArith.wf_i64 (by omega)
  have hr : rightB N S = true := (right_iff N S).2 ⟨n3, n6, s1, s8⟩
  have HN := Lib.hid hN
  have HS := Lib.hid hS
  have HR := Lib.hid hr
  have G3 := Lib.hid g3
  clear hN hS hr b1 b2
  obtain ⟨V, hV⟩ : ∃ V, S * (N - 1) = V := ⟨_, rfl⟩
  have mb := many_blocks n3 n6 s1 s8
  rw [hV] at mb
  obtain ⟨mb0, mb1⟩ := mb
  have C0 := Lib.hid (fun w' => plat_blocks_val N S w' V (by rw [show blocksI N S = S * (N - 1) from if_pos HR.out, hV]))
  obtain ⟨a, haa⟩ : ∃ a, pickI a0 V = a := ⟨_, rfl⟩
  obtain ⟨b, hbb⟩ : ∃ b, pickI b0 V = b := ⟨_, rfl⟩
  have P1 := Lib.hid (fun w' => pick05 a0 V w' ha (by omega) (by omega))
  have P2 := Lib.hid (fun w' => pick05 b0 V w' hb (by omega) (by omega))
  have i1 := pickI_in a0 V (by omega)
  have i2 := pickI_in b0 V (by omega)
  rw [haa] at P1 i1
  rw [hbb] at P2 i2
  obtain ⟨i1, j1⟩ := i1
  obtain ⟨i2, j2⟩ := i2
  have wa : (Lit.int .i64 a).wf = true := WalkArith.wf_i64 (by omega)
  have wb : (Lit.int .i64 b).wf = true := WalkArith.wf_i64 (by omega)
  have hpa : ofV N S a = .tuple #[.agg #[.int .i64 (a / (N - 1)), .int .i64 (a % (N - 1)), .int .i64 ((a / (N - 1) + a % (N - 1)) % N)], .int .i64 0] := ofV_yes (has_iff.2 ⟨HR.out, i1, by rw [hV]; exact j1⟩)
  have hpb : ofV N S b = .tuple #[.agg #[.int .i64 (b / (N - 1)), .int .i64 (b % (N - 1)), .int .i64 ((b / (N - 1) + b % (N - 1)) % N)], .int .i64 0] := ofV_yes (has_iff.2 ⟨HR.out, i2, by rw [hV]; exact j2⟩)
  have ord := order_is n3 n6 i1 i2
  have ka := block_back n3 n6 i1 (by rw [hV]; exact j1)
  have kb := block_back n3 n6 i2 (by rw [hV]; exact j2)
  obtain ⟨qa, hqa⟩ : ∃ x, a / (N - 1) = x := ⟨_, rfl⟩
  obtain ⟨qb, hqb⟩ : ∃ x, b / (N - 1) = x := ⟨_, rfl⟩
  obtain ⟨ra', hra'⟩ : ∃ x, a % (N - 1) = x := ⟨_, rfl⟩
  obtain ⟨rb', hrb'⟩ : ∃ x, b % (N - 1) = x := ⟨_, rfl⟩
  rw [hqa, hra'] at hpa ka ord
  rw [hqb, hrb'] at hpb kb ord
  have una := nodes_unlike n3 n6 ka.2.1 (by omega) ka.2.2.2.1 (by omega) kb.2.2.2.1 (by omega)
  obtain ⟨na, hna⟩ : ∃ x, (qa + ra') % N = x := ⟨_, rfl⟩
  obtain ⟨nb, hnb⟩ : ∃ x, (qb + rb') % N = x := ⟨_, rfl⟩
  rw [hna] at hpa una
  rw [hnb] at hpb
  have C1 := Lib.hid (fun w' => plat_of_val N S a w' _ HN.out HS.out wa hpa)
  have C2 := Lib.hid (fun w' => plat_of_val N S b w' _ HN.out HS.out wb hpb)
  have hlt2 : decide (V < 2) = false := by simp; omega
  obtain ⟨m, hm⟩ : ∃ m, N - 1 = m := ⟨_, rfl⟩
  have hnode := node_is (N := N) (S := S) (st := qa) (c := ra') ⟨HR.out, ka.2.1, ka.2.2.1, ka.2.2.2.1, by omega⟩
  have hram : (ra' == m) = false := by simp only [beq_eq_false_iff_ne, ne_eq]; omega
  have hne : decide (ra' = N - 1) = false := decide_eq_false (by omega)
  have hisB : isB N S qa ra' = true := by
    unfold isB
    rw [hne, hnode.1]
    simp [hnode.2.1]
  have hnum : numB N S qa ra' = a := by
    unfold numB
    rw [if_pos hisB]
    exact ka.1
  have wqa : (Lit.int .i64 qa).wf = true := WalkArith.wf_i64 (by omega)
  have wra : (Lit.int .i64 ra').wf = true := WalkArith.wf_i64 (by omega)
  have C3 := Lib.hid (fun w' => plat_block_val N S qa ra' w' _ _ HN.out HS.out wqa wra hnum hisB)
  have C4 := Lib.hid (fun w' => plat_parity_val N S w' m (by rw [show parityI N S = N - 1 from if_pos HR.out, hm]))
  have hcase : (a = b ∧ qa = qb ∧ ra' = rb' ∧ na = nb) ∨ (a ≠ b ∧ qa ≠ qb) ∨ (a ≠ b ∧ qa = qb ∧ ra' ≠ rb' ∧ na ≠ nb) := by
    by_cases h : a = b
    · subst h
      have e1 : qa = qb := by rw [← hqa, ← hqb]
      have e2 : ra' = rb' := by rw [← hra', ← hrb']
      have e3 : na = nb := by rw [← hna, ← hnb, e1, e2]
      exact Or.inl ⟨rfl, e1, e2, e3⟩
    · by_cases h2 : qa = qb
      · have h3 : ra' ≠ rb' := fun h3 => h (by rw [← ka.1, ← kb.1, h2, h3])
        have h4 : na ≠ nb := fun h4 => by
          rw [← hnb, ← h2] at h4
          exact h3 (una.1 h4)
        exact Or.inr (Or.inr ⟨h, h2, h3, h4⟩)
      · exact Or.inr (Or.inl ⟨h, h2⟩)
  clear hpa hpb ord ka kb hqa hqb hra' hrb' una hna hnb haa hbb hV wa wb HN HS HR hm hnode hne hisB hnum wqa wra
  obtain ⟨_, c0, c1⟩ := g3
  go_wp2_with fail
  refine (C0.out _).mono ?_
  rintro e w4 ⟨rfl, b4⟩
  have g4 := G3.out.later b4
  replace b4 := below_call b3 b4
  have G4 := Lib.hid g4
  clear c0 c1 G3 C0
  obtain ⟨_, c0, c1⟩ := g4
  go_wp2_with fail
  refine (P1.out _).mono ?_
  rintro e w5 ⟨rfl, rfl⟩
  go_wp2_with fail
  refine (P2.out _).mono ?_
  rintro e w5 ⟨rfl, rfl⟩
  go_wp2_with fail
  clear c0 c1 P1 P2
  refine (C1.out _).mono ?_
  rintro e w5 ⟨rfl, b5⟩
  have g5 := G4.out.later b5
  replace b5 := below_call b4 b5
  have p6 := Plc.boxed w5 qa ra' na 26
  have g6 := g5.later ((Below.refl _ _).alloc (Nat.le_refl _) (.cells #[.int .i64 qa, .int .i64 ra', .int .i64 na] 26))
  have b6 := b5.alloc b5.size (.cells #[.int .i64 qa, .int .i64 ra', .int .i64 na] 26)
  have G6 := Lib.hid g6
  have Q6 := Lib.hid p6
  obtain ⟨_, c0, c1⟩ := g6
  go_wp2_with fail
  clear c0 c1 G4 C1
  refine (C2.out _).mono ?_
  rintro e w7 ⟨rfl, b7⟩
  have g7 := G6.out.later b7
  have p7 := Q6.out.later b7
  replace b7 := below_call b6 b7
  have q8 := Plc.boxed w7 qb rb' nb 26
  have g8 := g7.later ((Below.refl _ _).alloc (Nat.le_refl _) (.cells #[.int .i64 qb, .int .i64 rb', .int .i64 nb] 26))
  have p8 := p7.later ((Below.refl _ _).alloc (Nat.le_refl _) (.cells #[.int .i64 qb, .int .i64 rb', .int .i64 nb] 26))
  have b8 := b7.alloc b7.size (.cells #[.int .i64 qb, .int .i64 rb', .int .i64 nb] 26)
  clear G6 Q6 C2 b3 b4 b5 b6 b7 g5 g7 p6 p7
  have G8 := Lib.hid g8
  have P8 := Lib.hid p8
  have Q8 := Lib.hid q8
  obtain ⟨_, c0, c1⟩ := g8
  obtain ⟨_, p0, p1, p2⟩ := p8
  go_wp2_with fail
  clear c0 c1 p0 p1 p2
  refine (C3.out _).mono ?_
  rintro e w9 ⟨rfl, b9⟩
  obtain ⟨_, c0, c1⟩ := G8.out.later b9
  obtain ⟨_, p0, p1, p2⟩ := P8.out.later b9
  obtain ⟨_, q0, q1, q2⟩ := Q8.out.later b9
  replace b9 := below_call b8 b9
  clear G8 P8 Q8 b8 C3
  generalize w2.heap.size = g at *
  generalize w5.heap.size = h at *
  generalize w7.heap.size = i at *
  go_wp2_with fail
  have b10 := b9.drew
  rcases hcase with ⟨rfl, rfl, rfl, rfl⟩ | ⟨hab, hqq⟩ | ⟨hab, rfl, hrr, hnn⟩
  · skip
    go_region_held3 (fun w' => w'.cell? ⟨g, 0, none⟩ = some (.int .i64 N) ∧ w'.cell? ⟨g, 1, none⟩ = some (.int .i64 S) ∧ w'.cell? ⟨h, 0, none⟩ = some (.int .i64 qa) ∧ w'.cell? ⟨h, 1, none⟩ = some (.int .i64 ra') ∧ w'.cell? ⟨h, 2, none⟩ = some (.int .i64 na) ∧ w'.cell? ⟨i, 0, none⟩ = some (.int .i64 qa) ∧ w'.cell? ⟨i, 1, none⟩ = some (.int .i64 ra') ∧ w'.cell? ⟨i, 2, none⟩ = some (.int .i64 na))
      (first
        | exact ⟨k0, k1, k2, k3, k4, k5, k6, k7⟩
        | exact ⟨c0, c1, p0, p1, p2, q0, q1, q2⟩)
      (first
        | ((go_at_call 20; with_reducible refine (C4.out _).mono ?_); rintro e w11 ⟨rfl, b11⟩
           have k0 : w11.cell? ⟨g, 0, none⟩ = some (.int .i64 N) := keep_cell b11 (by assumption)
           have k1 : w11.cell? ⟨g, 1, none⟩ = some (.int .i64 S) := keep_cell b11 (by assumption)
           have k2 : w11.cell? ⟨h, 0, none⟩ = some (.int .i64 qa) := keep_cell b11 (by assumption)
           have k3 : w11.cell? ⟨h, 1, none⟩ = some (.int .i64 ra') := keep_cell b11 (by assumption)
           have k4 : w11.cell? ⟨h, 2, none⟩ = some (.int .i64 na) := keep_cell b11 (by assumption)
           have k5 : w11.cell? ⟨i, 0, none⟩ = some (.int .i64 qa) := keep_cell b11 (by assumption)
           have k6 : w11.cell? ⟨i, 1, none⟩ = some (.int .i64 ra') := keep_cell b11 (by assumption)
           have k7 : w11.cell? ⟨i, 2, none⟩ = some (.int .i64 na) := keep_cell b11 (by assumption)
           have bb : Below w.heap.size w w11 := below_call (by assumption) b11))
    all_goals
      go_wp2
      go_ret
      exact ⟨by simp; simpa using hram, bb⟩
  · have hab1 : (a == b) = false := beq_eq_false_iff_ne.2 hab
    have hab2 : decide (a = b) = false := decide_eq_false hab
    have hqq1 : (qa == qb) = false := beq_eq_false_iff_ne.2 hqq
    have hqq2 : decide (qa = qb) = false := decide_eq_false hqq
    refine wp_region_held_drew (S := (fun w' => w'.cell? ⟨g, 0, none⟩ = some (.int .i64 N) ∧ w'.cell? ⟨g, 1, none⟩ = some (.int .i64 S) ∧ w'.cell? ⟨h, 0, none⟩ = some (.int .i64 qa) ∧ w'.cell? ⟨h, 1, none⟩ = some (.int .i64 ra') ∧ w'.cell? ⟨h, 2, none⟩ = some (.int .i64 na) ∧ w'.cell? ⟨i, 0, none⟩ = some (.int .i64 qb) ∧ w'.cell? ⟨i, 1, none⟩ = some (.int .i64 rb') ∧ w'.cell? ⟨i, 2, none⟩ = some (.int .i64 nb))) (by kernel_rfl) ⟨c0, c1, p0, p1, p2, q0, q1, q2⟩ (fun hHeld => ?_)
    refine wpAnyH_take (i := 0) (v := ?v0) rfl (by kernel_rfl) (by kernel_rfl) (by kernel_rfl) (fun _ _ _ h => h) (Or.inl ⟨by rfl, ?y0⟩) (by assumption) ?_
    case y0 =>
      intro w' hSw
      simp only [List.getElem_toArray, List.getElem_cons_zero]
      first | (go_simp; done) | (go_simp; with_reducible rfl)
    simp only [List.getElem_toArray, List.getElem_cons_zero, Act.put, List.setIfInBounds_toArray, List.set_cons_zero, List.set_cons_succ]
    refine wpAnyH_take (i := 1) (v := ?v1) rfl (by kernel_rfl) (by kernel_rfl) (by kernel_rfl) (fun _ _ _ h => h) (Or.inl ⟨by rfl, ?y1⟩) (by assumption) ?_
    case y1 =>
      intro w' hSw
      simp only [List.getElem_toArray, List.getElem_cons_zero, List.getElem_cons_succ]
      first | (go_simp; done) | (go_simp; with_reducible rfl)
    simp only [List.getElem_toArray, List.getElem_cons_zero, List.getElem_cons_succ, Act.put, List.setIfInBounds_toArray, List.set_cons_zero, List.set_cons_succ]
    refine wpAnyH_take (i := 2) (v := ?v2) rfl (by kernel_rfl) (by kernel_rfl) (by kernel_rfl) (fun _ _ _ h => h) (Or.inl ⟨by rfl, ?y2⟩) (by assumption) ?_
    case y2 =>
      intro w' hSw
      simp only [List.getElem_toArray, List.getElem_cons_zero, List.getElem_cons_succ]
      first | (go_simp; done) | (go_simp; with_reducible rfl)
    simp only [List.getElem_toArray, List.getElem_cons_zero, List.getElem_cons_succ, Act.put, List.setIfInBounds_toArray, List.set_cons_zero, List.set_cons_succ]
    refine wpAnyH_take (i := 3) (v := ?v3) rfl (by kernel_rfl) (by kernel_rfl) (by kernel_rfl) (fun _ _ _ h => h) (Or.inl ⟨by rfl, ?y3⟩) (by assumption) ?_
    case y3 =>
      intro w' hSw
      simp only [List.getElem_toArray, List.getElem_cons_zero, List.getElem_cons_succ]
      first | (go_simp; done) | (go_simp; with_reducible rfl)
    simp only [List.getElem_toArray, List.getElem_cons_zero, List.getElem_cons_succ, Act.put, List.setIfInBounds_toArray, List.set_cons_zero, List.set_cons_succ]
    refine wpAnyH_take (i := 4) (v := ?v4) rfl (by kernel_rfl) (by kernel_rfl) (by kernel_rfl) (fun _ _ _ h => h) (Or.inl ⟨by rfl, ?y4⟩) (by assumption) ?_
    case y4 =>
      intro w' hSw
      simp only [List.getElem_toArray, List.getElem_cons_zero, List.getElem_cons_succ]
      first | (go_simp; done) | (go_simp; with_reducible rfl)
    simp only [List.getElem_toArray, List.getElem_cons_zero, List.getElem_cons_succ, Act.put, List.setIfInBounds_toArray, List.set_cons_zero, List.set_cons_succ]
    refine wpAnyH_take (i := 5) (v := ?v5) rfl (by kernel_rfl) (by kernel_rfl) (by kernel_rfl) (fun _ _ _ h => h) (Or.inl ⟨by rfl, ?y5⟩) (by assumption) ?_
    case y5 =>
      intro w' hSw
      simp only [List.getElem_toArray, List.getElem_cons_zero, List.getElem_cons_succ]
      first | (go_simp; done) | (go_simp; with_reducible rfl)
    simp only [List.getElem_toArray, List.getElem_cons_zero, List.getElem_cons_succ, Act.put, List.setIfInBounds_toArray, List.set_cons_zero, List.set_cons_succ]
    refine wpAnyH_take (i := 6) (v := ?v6) rfl (by kernel_rfl) (by kernel_rfl) (by kernel_rfl) (fun _ _ _ h => h) (Or.inl ⟨by rfl, ?y6⟩) (by assumption) ?_
    case y6 =>
      intro w' hSw
      simp only [List.getElem_toArray, List.getElem_cons_zero, List.getElem_cons_succ]
      first | (go_simp; done) | (go_simp; with_reducible rfl)
    simp only [List.getElem_toArray, List.getElem_cons_zero, List.getElem_cons_succ, Act.put, List.setIfInBounds_toArray, List.set_cons_zero, List.set_cons_succ]
    refine wpAnyH_take (i := 7) (v := ?v7) rfl (by kernel_rfl) (by kernel_rfl) (by kernel_rfl) (fun _ _ _ h => h) (Or.inl ⟨by rfl, ?y7⟩) (by assumption) ?_
    case y7 =>
      intro w' hSw
      simp only [List.getElem_toArray, List.getElem_cons_zero, List.getElem_cons_succ]
      first | (go_simp; done) | (go_simp; with_reducible rfl)
    simp only [List.getElem_toArray, List.getElem_cons_zero, List.getElem_cons_succ, Act.put, List.setIfInBounds_toArray, List.set_cons_zero, List.set_cons_succ]
    refine wpAnyH_take (i := 8) (v := ?v8) rfl (by kernel_rfl) (by kernel_rfl) (by kernel_rfl) (fun _ _ _ h => h) (Or.inl ⟨by rfl, ?y8⟩) (by assumption) ?_
    case y8 =>
      intro w' hSw
      simp only [List.getElem_toArray, List.getElem_cons_zero, List.getElem_cons_succ]
      first | (go_simp; done) | (go_simp; with_reducible rfl)
    simp only [List.getElem_toArray, List.getElem_cons_zero, List.getElem_cons_succ, Act.put, List.setIfInBounds_toArray, List.set_cons_zero, List.set_cons_succ]
    refine wpAnyH_take (i := 9) (v := ?v9) rfl (by kernel_rfl) (by kernel_rfl) (by kernel_rfl) (fun _ _ _ h => h) (Or.inl ⟨by rfl, ?y9⟩) (by assumption) ?_
    case y9 =>
      intro w' hSw
      simp only [List.getElem_toArray, List.getElem_cons_zero, List.getElem_cons_succ]
      first | (go_simp; done) | (go_simp; with_reducible rfl)
    simp only [List.getElem_toArray, List.getElem_cons_zero, List.getElem_cons_succ, Act.put, List.setIfInBounds_toArray, List.set_cons_zero, List.set_cons_succ]
    refine wpAnyH_take (i := 10) (v := ?v10) rfl (by kernel_rfl) (by kernel_rfl) (by kernel_rfl) (fun _ _ _ h => h) (Or.inl ⟨by rfl, ?y10⟩) (by assumption) ?_
    case y10 =>
      intro w' hSw
      simp only [List.getElem_toArray, List.getElem_cons_zero, List.getElem_cons_succ]
      first | (go_simp; done) | (go_simp; with_reducible rfl)
    simp only [List.getElem_toArray, List.getElem_cons_zero, List.getElem_cons_succ, Act.put, List.setIfInBounds_toArray, List.set_cons_zero, List.set_cons_succ]
    refine wpAnyH_take (i := 11) (v := ?v11) rfl (by kernel_rfl) (by kernel_rfl) (by kernel_rfl) (fun _ _ _ h => h) (Or.inl ⟨by rfl, ?y11⟩) (by assumption) ?_
    case y11 =>
      intro w' hSw
      simp only [List.getElem_toArray, List.getElem_cons_zero, List.getElem_cons_succ]
      first | (go_simp; done) | (go_simp; with_reducible rfl)
    simp only [List.getElem_toArray, List.getElem_cons_zero, List.getElem_cons_succ, Act.put, List.setIfInBounds_toArray, List.set_cons_zero, List.set_cons_succ]
    refine wpAnyH_take (i := 12) (v := ?v12) rfl (by kernel_rfl) (by kernel_rfl) (by kernel_rfl) (fun _ _ _ h => h) (Or.inl ⟨by rfl, ?y12⟩) (by assumption) ?_
    case y12 =>
      intro w' hSw
      simp only [List.getElem_toArray, List.getElem_cons_zero, List.getElem_cons_succ]
      first | (go_simp; done) | (go_simp; with_reducible rfl)
    simp only [List.getElem_toArray, List.getElem_cons_zero, List.getElem_cons_succ, Act.put, List.setIfInBounds_toArray, List.set_cons_zero, List.set_cons_succ]
    refine wpAnyH_take (i := 13) (v := ?v13) rfl (by kernel_rfl) (by kernel_rfl) (by kernel_rfl) (fun _ _ _ h => h) (Or.inl ⟨by rfl, ?y13⟩) (by assumption) ?_
    case y13 =>
      intro w' hSw
      simp only [List.getElem_toArray, List.getElem_cons_zero, List.getElem_cons_succ]
      first | (go_simp; done) | (go_simp; with_reducible rfl)
    simp only [List.getElem_toArray, List.getElem_cons_zero, List.getElem_cons_succ, Act.put, List.setIfInBounds_toArray, List.set_cons_zero, List.set_cons_succ]
    refine wpAnyH_take (i := 14) (v := ?v14) rfl (by kernel_rfl) (by kernel_rfl) (by kernel_rfl) (fun _ _ _ h => h) (Or.inl ⟨by rfl, ?y14⟩) (by assumption) ?_
    case y14 =>
      intro w' hSw
      simp only [List.getElem_toArray, List.getElem_cons_zero, List.getElem_cons_succ]
      first | (go_simp; done) | (go_simp; with_reducible rfl)
    simp only [List.getElem_toArray, List.getElem_cons_zero, List.getElem_cons_succ, Act.put, List.setIfInBounds_toArray, List.set_cons_zero, List.set_cons_succ]
    refine wpAnyH_take (i := 15) (v := ?v15) rfl (by kernel_rfl) (by kernel_rfl) (by kernel_rfl) (fun _ _ _ h => h) (Or.inl ⟨by rfl, ?y15⟩) (by assumption) ?_
    case y15 =>
      intro w' hSw
      simp only [List.getElem_toArray, List.getElem_cons_zero, List.getElem_cons_succ]
      first | (go_simp; done) | (go_simp; with_reducible rfl)
    simp only [List.getElem_toArray, List.getElem_cons_zero, List.getElem_cons_succ, Act.put, List.setIfInBounds_toArray, List.set_cons_zero, List.set_cons_succ]
    refine wpAnyH_take (i := 16) (v := ?v16) rfl (by kernel_rfl) (by kernel_rfl) (by kernel_rfl) (fun _ _ _ h => h) (Or.inl ⟨by rfl, ?y16⟩) (by assumption) ?_
    case y16 =>
      intro w' hSw
      simp only [List.getElem_toArray, List.getElem_cons_zero, List.getElem_cons_succ]
      first | (go_simp; done) | (go_simp; with_reducible rfl)
    simp only [List.getElem_toArray, List.getElem_cons_zero, List.getElem_cons_succ, Act.put, List.setIfInBounds_toArray, List.set_cons_zero, List.set_cons_succ]
    refine wpAnyH_take (i := 17) (v := ?v17) rfl (by kernel_rfl) (by kernel_rfl) (by kernel_rfl) (fun _ _ _ h => h) (Or.inl ⟨by rfl, ?y17⟩) (by assumption) ?_
    case y17 =>
      intro w' hSw
      simp only [List.getElem_toArray, List.getElem_cons_zero, List.getElem_cons_succ]
      first | (go_simp; done) | (go_simp; with_reducible rfl)
    simp only [List.getElem_toArray, List.getElem_cons_zero, List.getElem_cons_succ, Act.put, List.setIfInBounds_toArray, List.set_cons_zero, List.set_cons_succ]
    refine wpAnyH_take (i := 18) (v := ?v18) rfl (by kernel_rfl) (by kernel_rfl) (by kernel_rfl) (fun _ _ _ h => h) (Or.inl ⟨by rfl, ?y18⟩) (by assumption) ?_
    case y18 =>
      intro w' hSw
      simp only [List.getElem_toArray, List.getElem_cons_zero, List.getElem_cons_succ]
      first | (go_simp; done) | (go_simp; with_reducible rfl)
    simp only [List.getElem_toArray, List.getElem_cons_zero, List.getElem_cons_succ, Act.put, List.setIfInBounds_toArray, List.set_cons_zero, List.set_cons_succ]
    refine wpAnyH_take (i := 19) (v := ?v19) rfl (by kernel_rfl) (by kernel_rfl) (by kernel_rfl) (fun _ _ _ h => h) (Or.inl ⟨by rfl, ?y19⟩) (by assumption) ?_
    case y19 =>
      intro w' hSw
      simp only [List.getElem_toArray, List.getElem_cons_zero, List.getElem_cons_succ]
      first | (go_simp; done) | (go_simp; with_reducible rfl)
    simp only [List.getElem_toArray, List.getElem_cons_zero, List.getElem_cons_succ, Act.put, List.setIfInBounds_toArray, List.set_cons_zero, List.set_cons_succ]
    refine wpAnyH_take (i := 20) (v := ?v20) rfl (by kernel_rfl) (by kernel_rfl) (by kernel_rfl) (fun _ _ _ h => h) (Or.inl ⟨by rfl, ?y20⟩) (by assumption) ?_
    case y20 =>
      intro w' hSw
      simp only [List.getElem_toArray, List.getElem_cons_zero, List.getElem_cons_succ]
      first | (go_simp; done) | (go_simp; with_reducible rfl)
    simp only [List.getElem_toArray, List.getElem_cons_zero, List.getElem_cons_succ, Act.put, List.setIfInBounds_toArray, List.set_cons_zero, List.set_cons_succ]
    refine wpAnyH_take (i := 21) (v := ?v21) rfl (by kernel_rfl) (by kernel_rfl) (by kernel_rfl) (fun _ _ _ h => h) (Or.inl ⟨by rfl, ?y21⟩) (by assumption) ?_
    case y21 =>
      intro w' hSw
      simp only [List.getElem_toArray, List.getElem_cons_zero, List.getElem_cons_succ]
      first | (go_simp; done) | (go_simp; with_reducible rfl)
    simp only [List.getElem_toArray, List.getElem_cons_zero, List.getElem_cons_succ, Act.put, List.setIfInBounds_toArray, List.set_cons_zero, List.set_cons_succ]
    refine wpAnyH_take (i := 22) (v := ?v22) rfl (by kernel_rfl) (by kernel_rfl) (by kernel_rfl) (fun _ _ _ h => h) (Or.inl ⟨by rfl, ?y22⟩) (by assumption) ?_
    case y22 =>
      intro w' hSw
      simp only [List.getElem_toArray, List.getElem_cons_zero, List.getElem_cons_succ]
      first | (go_simp; done) | (go_simp; with_reducible rfl)
    simp only [List.getElem_toArray, List.getElem_cons_zero, List.getElem_cons_succ, Act.put, List.setIfInBounds_toArray, List.set_cons_zero, List.set_cons_succ]
    refine wpAnyH_take (i := 23) (v := ?v23) rfl (by kernel_rfl) (by kernel_rfl) (by kernel_rfl) (fun _ _ _ h => h) (Or.inl ⟨by rfl, ?y23⟩) (by assumption) ?_
    case y23 =>
      intro w' hSw
      simp only [List.getElem_toArray, List.getElem_cons_zero, List.getElem_cons_succ]
      first | (go_simp; done) | (go_simp; with_reducible rfl)
    simp only [List.getElem_toArray, List.getElem_cons_zero, List.getElem_cons_succ, Act.put, List.setIfInBounds_toArray, List.set_cons_zero, List.set_cons_succ]
    refine wpAnyH_take (i := 24) (v := ?v24) rfl (by kernel_rfl) (by kernel_rfl) (by kernel_rfl) (fun _ _ _ h => h) (Or.inl ⟨by rfl, ?y24⟩) (by assumption) ?_
    case y24 =>
      intro w' hSw
      simp only [List.getElem_toArray, List.getElem_cons_zero, List.getElem_cons_succ]
      first | (go_simp; done) | (go_simp; with_reducible rfl)
    simp only [List.getElem_toArray, List.getElem_cons_zero, List.getElem_cons_succ, Act.put, List.setIfInBounds_toArray, List.set_cons_zero, List.set_cons_succ]
    refine wpAnyH_take (i := 25) (v := ?v25) rfl (by kernel_rfl) (by kernel_rfl) (by kernel_rfl) (fun _ _ _ h => h) (Or.inl ⟨by rfl, ?y25⟩) (by assumption) ?_
    case y25 =>
      intro w' hSw
      simp only [List.getElem_toArray, List.getElem_cons_zero, List.getElem_cons_succ]
      first | (go_simp; done) | (go_simp; with_reducible rfl)
    simp only [List.getElem_toArray, List.getElem_cons_zero, List.getElem_cons_succ, Act.put, List.setIfInBounds_toArray, List.set_cons_zero, List.set_cons_succ]
    refine wpAnyH_take (i := 26) (v := ?v26) rfl (by kernel_rfl) (by kernel_rfl) (by kernel_rfl) (fun _ _ _ h => h) (Or.inl ⟨by rfl, ?y26⟩) (by assumption) ?_
    case y26 =>
      intro w' hSw
      simp only [List.getElem_toArray, List.getElem_cons_zero, List.getElem_cons_succ]
      first | (go_simp; done) | (go_simp; with_reducible rfl)
    simp only [List.getElem_toArray, List.getElem_cons_zero, List.getElem_cons_succ, Act.put, List.setIfInBounds_toArray, List.set_cons_zero, List.set_cons_succ]
    refine wpAnyH_take (i := 27) (v := ?v27) rfl (by kernel_rfl) (by kernel_rfl) (by kernel_rfl) (fun _ _ _ h => h) (Or.inl ⟨by rfl, ?y27⟩) (by assumption) ?_
    case y27 =>
      intro w' hSw
      simp only [List.getElem_toArray, List.getElem_cons_zero, List.getElem_cons_succ]
      first | (go_simp; done) | (go_simp; with_reducible rfl)
    simp only [List.getElem_toArray, List.getElem_cons_zero, List.getElem_cons_succ, Act.put, List.setIfInBounds_toArray, List.set_cons_zero, List.set_cons_succ]
    refine wpAnyH_take (i := 28) (v := ?v28) rfl (by kernel_rfl) (by kernel_rfl) (by kernel_rfl) (fun _ _ _ h => h) (Or.inl ⟨by rfl, ?y28⟩) (by assumption) ?_
    case y28 =>
      intro w' hSw
      simp only [List.getElem_toArray, List.getElem_cons_zero, List.getElem_cons_succ]
      first | (go_simp; done) | (go_simp; with_reducible rfl)
    simp only [List.getElem_toArray, List.getElem_cons_zero, List.getElem_cons_succ, Act.put, List.setIfInBounds_toArray, List.set_cons_zero, List.set_cons_succ]
    refine wpAnyH_take (i := 29) (v := ?v29) rfl (by kernel_rfl) (by kernel_rfl) (by kernel_rfl) (fun _ _ _ h => h) (Or.inl ⟨by rfl, ?y29⟩) (by assumption) ?_
    case y29 =>
      intro w' hSw
      simp only [List.getElem_toArray, List.getElem_cons_zero, List.getElem_cons_succ]
      first | (go_simp; done) | (go_simp; with_reducible rfl)
    simp only [List.getElem_toArray, List.getElem_cons_zero, List.getElem_cons_succ, Act.put, List.setIfInBounds_toArray, List.set_cons_zero, List.set_cons_succ]
    refine wpAnyH_take (i := 30) (v := ?v30) rfl (by kernel_rfl) (by kernel_rfl) (by kernel_rfl) (fun _ _ _ h => h) (Or.inl ⟨by rfl, ?y30⟩) (by assumption) ?_
    case y30 =>
      intro w' hSw
      simp only [List.getElem_toArray, List.getElem_cons_zero, List.getElem_cons_succ]
      first | (go_simp; done) | (go_simp; with_reducible rfl)
    simp only [List.getElem_toArray, List.getElem_cons_zero, List.getElem_cons_succ, Act.put, List.setIfInBounds_toArray, List.set_cons_zero, List.set_cons_succ]
    refine wpAnyH_take (i := 31) (v := ?v31) rfl (by kernel_rfl) (by kernel_rfl) (by kernel_rfl) (fun _ _ _ h => h) (Or.inl ⟨by rfl, ?y31⟩) (by assumption) ?_
    case y31 =>
      intro w' hSw
      simp only [List.getElem_toArray, List.getElem_cons_zero, List.getElem_cons_succ]
      first | (go_simp; done) | (go_simp; with_reducible rfl)
    simp only [List.getElem_toArray, List.getElem_cons_zero, List.getElem_cons_succ, Act.put, List.setIfInBounds_toArray, List.set_cons_zero, List.set_cons_succ]
    refine wpAnyH_take (i := 32) (v := ?v32) rfl (by kernel_rfl) (by kernel_rfl) (by kernel_rfl) (fun _ _ _ h => h) (Or.inl ⟨by rfl, ?y32⟩) (by assumption) ?_
    case y32 =>
      intro w' hSw
      simp only [List.getElem_toArray, List.getElem_cons_zero, List.getElem_cons_succ]
      first | (go_simp; done) | (go_simp; with_reducible rfl)
    simp only [List.getElem_toArray, List.getElem_cons_zero, List.getElem_cons_succ, Act.put, List.setIfInBounds_toArray, List.set_cons_zero, List.set_cons_succ]
    refine wpAnyH_take (i := 33) (v := undef) rfl (by kernel_rfl) (by kernel_rfl) (by kernel_rfl) (fun _ _ _ h => h) (Or.inr ⟨by rfl, rfl⟩) (by assumption) ?_
    simp only [List.getElem_toArray, List.getElem_cons_zero, List.getElem_cons_succ, Act.put, List.setIfInBounds_toArray, List.set_cons_zero, List.set_cons_succ]
    refine wpAnyH_take (i := 34) (v := undef) rfl (by kernel_rfl) (by kernel_rfl) (by kernel_rfl) (fun _ _ _ h => h) (Or.inr ⟨by rfl, rfl⟩) (by assumption) ?_
    simp only [List.getElem_toArray, List.getElem_cons_zero, List.getElem_cons_succ, Act.put, List.setIfInBounds_toArray, List.set_cons_zero, List.set_cons_succ]
    refine wpAnyH_take (i := 35) (v := undef) rfl (by kernel_rfl) (by kernel_rfl) (by kernel_rfl) (fun _ _ _ h => h) (Or.inr ⟨by rfl, rfl⟩) (by assumption) ?_
    simp only [List.getElem_toArray, List.getElem_cons_zero, List.getElem_cons_succ, Act.put, List.setIfInBounds_toArray, List.set_cons_zero, List.set_cons_succ]
    refine wpAnyH_take (i := 36) (v := undef) rfl (by kernel_rfl) (by kernel_rfl) (by kernel_rfl) (fun _ _ _ h => h) (Or.inr ⟨by rfl, rfl⟩) (by assumption) ?_
    simp only [List.getElem_toArray, List.getElem_cons_zero, List.getElem_cons_succ, Act.put, List.setIfInBounds_toArray, List.set_cons_zero, List.set_cons_succ]
    refine wpAnyH_take (i := 37) (v := undef) rfl (by kernel_rfl) (by kernel_rfl) (by kernel_rfl) (fun _ _ _ h => h) (Or.inr ⟨by rfl, rfl⟩) (by assumption) ?_
    simp only [List.getElem_toArray, List.getElem_cons_zero, List.getElem_cons_succ, Act.put, List.setIfInBounds_toArray, List.set_cons_zero, List.set_cons_succ]
    refine wpAnyH_take (i := 38) (v := ?v38) rfl (by kernel_rfl) (by kernel_rfl) (by kernel_rfl) (fun _ _ _ h => h) (Or.inl ⟨by rfl, ?y38⟩) (by assumption) ?_
    case y38 =>
      intro w' hSw
      simp only [List.getElem_toArray, List.getElem_cons_zero, List.getElem_cons_succ]
      first | (go_simp; done) | (go_simp; with_reducible rfl)
    simp only [List.getElem_toArray, List.getElem_cons_zero, List.getElem_cons_succ, Act.put, List.setIfInBounds_toArray, List.set_cons_zero, List.set_cons_succ]
    refine wpAnyH_take (i := 39) (v := ?v39) rfl (by kernel_rfl) (by kernel_rfl) (by kernel_rfl) (fun _ _ _ h => h) (Or.inl ⟨by rfl, ?y39⟩) (by assumption) ?_
    case y39 =>
      intro w' hSw
      simp only [List.getElem_toArray, List.getElem_cons_zero, List.getElem_cons_succ]
      first | (go_simp; done) | (go_simp; with_reducible rfl)
    simp only [List.getElem_toArray, List.getElem_cons_zero, List.getElem_cons_succ, Act.put, List.setIfInBounds_toArray, List.set_cons_zero, List.set_cons_succ]
    refine wpAnyH_take (i := 40) (v := ?v40) rfl (by kernel_rfl) (by kernel_rfl) (by kernel_rfl) (fun _ _ _ h => h) (Or.inl ⟨by rfl, ?y40⟩) (by assumption) ?_
    case y40 =>
      intro w' hSw
      simp only [List.getElem_toArray, List.getElem_cons_zero, List.getElem_cons_succ]
      first | (go_simp; done) | (go_simp; with_reducible rfl)
    simp only [List.getElem_toArray, List.getElem_cons_zero, List.getElem_cons_succ, Act.put, List.setIfInBounds_toArray, List.set_cons_zero, List.set_cons_succ]
    refine wpAnyH_take (i := 41) (v := ?v41) rfl (by kernel_rfl) (by kernel_rfl) (by kernel_rfl) (fun _ _ _ h => h) (Or.inl ⟨by rfl, ?y41⟩) (by assumption) ?_
    case y41 =>
      intro w' hSw
      simp only [List.getElem_toArray, List.getElem_cons_zero, List.getElem_cons_succ]
      first | (go_simp; done) | (go_simp; with_reducible rfl)
    simp only [List.getElem_toArray, List.getElem_cons_zero, List.getElem_cons_succ, Act.put, List.setIfInBounds_toArray, List.set_cons_zero, List.set_cons_succ]
    refine wpAnyH_take (i := 42) (v := ?v42) rfl (by kernel_rfl) (by kernel_rfl) (by kernel_rfl) (fun _ _ _ h => h) (Or.inl ⟨by rfl, ?y42⟩) (by assumption) ?_
    case y42 =>
      intro w' hSw
      simp only [List.getElem_toArray, List.getElem_cons_zero, List.getElem_cons_succ]
      first | (go_simp; done) | (go_simp; with_reducible rfl)
    simp only [List.getElem_toArray, List.getElem_cons_zero, List.getElem_cons_succ, Act.put, List.setIfInBounds_toArray, List.set_cons_zero, List.set_cons_succ]
    refine wpAnyH_take (i := 43) (v := ?v43) rfl (by kernel_rfl) (by kernel_rfl) (by kernel_rfl) (fun _ _ _ h => h) (Or.inl ⟨by rfl, ?y43⟩) (by assumption) ?_
    case y43 =>
      intro w' hSw
      simp only [List.getElem_toArray, List.getElem_cons_zero, List.getElem_cons_succ]
      first | (go_simp; done) | (go_simp; with_reducible rfl)
    simp only [List.getElem_toArray, List.getElem_cons_zero, List.getElem_cons_succ, Act.put, List.setIfInBounds_toArray, List.set_cons_zero, List.set_cons_succ]
    refine wpAnyH_take (i := 44) (v := ?v44) rfl (by kernel_rfl) (by kernel_rfl) (by kernel_rfl) (fun _ _ _ h => h) (Or.inl ⟨by rfl, ?y44⟩) (by assumption) ?_
    case y44 =>
      intro w' hSw
      simp only [List.getElem_toArray, List.getElem_cons_zero, List.getElem_cons_succ]
      first | (go_simp; done) | (go_simp; with_reducible rfl)
    simp only [List.getElem_toArray, List.getElem_cons_zero, List.getElem_cons_succ, Act.put, List.setIfInBounds_toArray, List.set_cons_zero, List.set_cons_succ]
    refine wpAnyH_take (i := 45) (v := ?v45) rfl (by kernel_rfl) (by kernel_rfl) (by kernel_rfl) (fun _ _ _ h => h) (Or.inl ⟨by rfl, ?y45⟩) (by assumption) ?_
    case y45 =>
      intro w' hSw
      simp only [List.getElem_toArray, List.getElem_cons_zero, List.getElem_cons_succ]
      first | (go_simp; done) | (go_simp; with_reducible rfl)
    simp only [List.getElem_toArray, List.getElem_cons_zero, List.getElem_cons_succ, Act.put, List.setIfInBounds_toArray, List.set_cons_zero, List.set_cons_succ]
    refine wpAnyH_take (i := 46) (v := ?v46) rfl (by kernel_rfl) (by kernel_rfl) (by kernel_rfl) (fun _ _ _ h => h) (Or.inl ⟨by rfl, ?y46⟩) (by assumption) ?_
    case y46 =>
      intro w' hSw
      simp only [List.getElem_toArray, List.getElem_cons_zero, List.getElem_cons_succ]
      first | (go_simp; done) | (go_simp; with_reducible rfl)
    simp only [List.getElem_toArray, List.getElem_cons_zero, List.getElem_cons_succ, Act.put, List.setIfInBounds_toArray, List.set_cons_zero, List.set_cons_succ]
    refine wpAnyH_take (i := 47) (v := ?v47) rfl (by kernel_rfl) (by kernel_rfl) (by kernel_rfl) (fun _ _ _ h => h) (Or.inl ⟨by rfl, ?y47⟩) (by assumption) ?_
    case y47 =>
      intro w' hSw
      simp only [List.getElem_toArray, List.getElem_cons_zero, List.getElem_cons_succ]
      first | (go_simp; done) | (go_simp; with_reducible rfl)
    simp only [List.getElem_toArray, List.getElem_cons_zero, List.getElem_cons_succ, Act.put, List.setIfInBounds_toArray, List.set_cons_zero, List.set_cons_succ]
    refine wpAnyH_ready (rs := [48]) (by kernel_rfl) (by simp) ?_
    refine AllReadyH.cons (o := _) rfl (fun K hK => ?_) AllReadyH.nil
    simp only [List.getElem_toArray, List.getElem_cons_zero, List.getElem_cons_succ]
    go_simp
    go_at_call 20
    with_reducible refine (C4.out _).mono ?_
    rintro e w11 ⟨rfl, b11⟩
    have k0 : w11.cell? ⟨g, 0, none⟩ = some (.int .i64 N) := keep_cell b11 (by assumption)
    have k1 : w11.cell? ⟨g, 1, none⟩ = some (.int .i64 S) := keep_cell b11 (by assumption)
    have k2 : w11.cell? ⟨h, 0, none⟩ = some (.int .i64 qa) := keep_cell b11 (by assumption)
    have k3 : w11.cell? ⟨h, 1, none⟩ = some (.int .i64 ra') := keep_cell b11 (by assumption)
    have k4 : w11.cell? ⟨h, 2, none⟩ = some (.int .i64 na) := keep_cell b11 (by assumption)
    have k5 : w11.cell? ⟨i, 0, none⟩ = some (.int .i64 qb) := keep_cell b11 (by assumption)
    have k6 : w11.cell? ⟨i, 1, none⟩ = some (.int .i64 rb') := keep_cell b11 (by assumption)
    have k7 : w11.cell? ⟨i, 2, none⟩ = some (.int .i64 nb) := keep_cell b11 (by assumption)
    have bb : Below w.heap.size w w11 := below_call (by assumption) b11
    refine hK.out _ _ ⟨k0, k1, k2, k3, k4, k5, k6, k7⟩ (fun hHeld2 => ?_)
    try simp only [Act.put, List.setIfInBounds_toArray, List.set_cons_zero, List.set_cons_succ]
    refine wpAnyH_take (i := 49) (v := ?v49) rfl (by kernel_rfl) (by kernel_rfl) (by kernel_rfl) (fun _ _ _ h => h) (Or.inl ⟨by rfl, ?y49⟩) (by assumption) ?_
    case y49 =>
      intro w' hSw
      simp only [List.getElem_toArray, List.getElem_cons_zero, List.getElem_cons_succ]
      first | (go_simp; done) | (go_simp; with_reducible rfl)
    simp only [List.getElem_toArray, List.getElem_cons_zero, List.getElem_cons_succ, Act.put, List.setIfInBounds_toArray, List.set_cons_zero, List.set_cons_succ]
    refine wpAnyH_take (i := 50) (v := ?v50) rfl (by kernel_rfl) (by kernel_rfl) (by kernel_rfl) (fun _ _ _ h => h) (Or.inl ⟨by rfl, ?y50⟩) (by assumption) ?_
    case y50 =>
      intro w' hSw
      simp only [List.getElem_toArray, List.getElem_cons_zero, List.getElem_cons_succ]
      first | (go_simp; done) | (go_simp; with_reducible rfl)
    simp only [List.getElem_toArray, List.getElem_cons_zero, List.getElem_cons_succ, Act.put, List.setIfInBounds_toArray, List.set_cons_zero, List.set_cons_succ]
    refine wpAnyH_take (i := 51) (v := ?v51) rfl (by kernel_rfl) (by kernel_rfl) (by kernel_rfl) (fun _ _ _ h => h) (Or.inl ⟨by rfl, ?y51⟩) (by assumption) ?_
    case y51 =>
      intro w' hSw
      simp only [List.getElem_toArray, List.getElem_cons_zero, List.getElem_cons_succ]
      first | (go_simp; done) | (go_simp; with_reducible rfl)
    simp only [List.getElem_toArray, List.getElem_cons_zero, List.getElem_cons_succ, Act.put, List.setIfInBounds_toArray, List.set_cons_zero, List.set_cons_succ]
    refine wpAnyH_done (by kernel_rfl) ?_ _
    go_wp2
    go_ret
    exact ⟨by simp; simpa using hram, bb⟩
  · skip
    have hab1 : (a == b) = false := beq_eq_false_iff_ne.2 hab
    have hab2 : decide (a = b) = false := decide_eq_false hab
    have hrr1 : (ra' == rb') = false := beq_eq_false_iff_ne.2 hrr
    have hrr2 : decide (ra' = rb') = false := decide_eq_false hrr
    have hnn1 : (na == nb) = false := beq_eq_false_iff_ne.2 hnn
    have hnn2 : decide (na = nb) = false := decide_eq_false hnn
    go_region_held3 (fun w' => w'.cell? ⟨g, 0, none⟩ = some (.int .i64 N) ∧ w'.cell? ⟨g, 1, none⟩ = some (.int .i64 S) ∧ w'.cell? ⟨h, 0, none⟩ = some (.int .i64 qa) ∧ w'.cell? ⟨h, 1, none⟩ = some (.int .i64 ra') ∧ w'.cell? ⟨h, 2, none⟩ = some (.int .i64 na) ∧ w'.cell? ⟨i, 0, none⟩ = some (.int .i64 qa) ∧ w'.cell? ⟨i, 1, none⟩ = some (.int .i64 rb') ∧ w'.cell? ⟨i, 2, none⟩ = some (.int .i64 nb))
      (first
        | exact ⟨k0, k1, k2, k3, k4, k5, k6, k7⟩
        | exact ⟨c0, c1, p0, p1, p2, q0, q1, q2⟩)
      (first
        | ((go_at_call 20; with_reducible refine (C4.out _).mono ?_); rintro e w11 ⟨rfl, b11⟩
           have k0 : w11.cell? ⟨g, 0, none⟩ = some (.int .i64 N) := keep_cell b11 (by assumption)
           have k1 : w11.cell? ⟨g, 1, none⟩ = some (.int .i64 S) := keep_cell b11 (by assumption)
           have k2 : w11.cell? ⟨h, 0, none⟩ = some (.int .i64 qa) := keep_cell b11 (by assumption)
           have k3 : w11.cell? ⟨h, 1, none⟩ = some (.int .i64 ra') := keep_cell b11 (by assumption)
           have k4 : w11.cell? ⟨h, 2, none⟩ = some (.int .i64 na) := keep_cell b11 (by assumption)
           have k5 : w11.cell? ⟨i, 0, none⟩ = some (.int .i64 qa) := keep_cell b11 (by assumption)
           have k6 : w11.cell? ⟨i, 1, none⟩ = some (.int .i64 rb') := keep_cell b11 (by assumption)
           have k7 : w11.cell? ⟨i, 2, none⟩ = some (.int .i64 nb) := keep_cell b11 (by assumption)
           have bb : Below w.heap.size w w11 := below_call (by assumption) b11))
    all_goals
      go_wp2
      go_ret
      exact ⟨by simp; simpa using hram, bb⟩
end Go.Proofs.Ytnlphinhkdhaeaa

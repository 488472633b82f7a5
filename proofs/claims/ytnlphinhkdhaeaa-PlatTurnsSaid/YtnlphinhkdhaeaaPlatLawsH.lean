/- The statements of layer 5: walks, continued: the parity goes round. -/
import Derived.Test.YtnlphinhkdhaeaaPlatLawsD
namespace Go.Proofs.Ytnlphinhkdhaeaa
open Go.RowKit Go.ChangeShapes Go.WideShapes

theorem round_is {N k nd : Int} (n3 : 3 ≤ N) (n6 : N ≤ 6) (k0 : 0 ≤ k) (k1 : k < N) (d0 : 0 ≤ nd) (d1 : nd < N) : (k + (N - 1)) % N = nd ↔ k = (nd + 1) % N := by
  have hN : N = 3 ∨ N = 4 ∨ N = 5 ∨ N = 6 := by omega
  rcases hN with rfl | rfl | rfl | rfl <;> omega
theorem next_is {N k c : Int} (n3 : 3 ≤ N) (n6 : N ≤ 6) : ((k - 1 + c) % N + 1) % N = (k + c) % N := by
  have hN : N = 3 ∨ N = 4 ∨ N = 5 ∨ N = 6 := by omega
  rcases hN with rfl | rfl | rfl | rfl <;> omega

set_option maxRecDepth 100000 in
set_option maxHeartbeats 6400000 in
/-- PlatTurns -/
theorem platTurns_any (ra rb nd0 c00 : Int) (w : World) (hra : (Lit.int .i64 ra).wf = true) (hrb : (Lit.int .i64 rb).wf = true) (hnd : (Lit.int .i64 nd0).wf = true) (hcc : (Lit.int .i64 c00).wf = true) :
    Holds Try.prog 7 #[.agg #[.int .i64 ra, .int .i64 rb], .int .i64 nd0, .int .i64 c00] w := by
  unfold Holds
  go_enter Try.func7, Try.ntmps7
  go_wp2_with fail
  refine (awake05 _).mono ?_
  rintro e w1 ⟨rfl, b1⟩
  have g1 := (Geo.boxed w ra rb 23).later b1
  replace b1 := below_boxed b1
  obtain ⟨_, c0, c1⟩ := g1
  go_wp2_with fail
  clear c0 c1
  refine (fit05 ra rb _ hra hrb).mono ?_
  rintro e w2 ⟨N, S, n3, n6, s1, s8, rfl, b2⟩
  replace b2 := below_call b1 b2
  have g3 := Geo.boxed w2 N S 23
  have b3 := b2.alloc b2.size (.cells #[.int .i64 N, .int .i64 S] 23)
  have hN : (Lit.int .i64 N).wf = true := WalkArith.wf_i64 (by omega)
  have hS : (Lit.int .i64 S).wf = true := WalkArith.wf_i64 (by omega)
  have hr : rightB N S = true := (right_iff N S).2 ⟨n3, n6, s1, s8⟩
  have HN := Lib.hid hN
  have HS := Lib.hid hS
  have HR := Lib.hid hr
  have G3 := Lib.hid g3
  clear hN hS hr b1 b2
  obtain ⟨nd, hd⟩ : ∃ x, pickI nd0 N = x := ⟨_, rfl⟩
  obtain ⟨c, hc⟩ : ∃ x, pickI c00 N = x := ⟨_, rfl⟩
  have P1 := Lib.hid (fun w' => pick05 nd0 N w' hnd (by omega) (by omega))
  have P2 := Lib.hid (fun w' => pick05 c00 N w' hcc (by omega) (by omega))
  have i1 := pickI_in nd0 N (by omega)
  have i2 := pickI_in c00 N (by omega)
  rw [hd] at P1 i1
  rw [hc] at P2 i2
  obtain ⟨i1, j1⟩ := i1
  obtain ⟨i2, j2⟩ := i2
  have wc : (Lit.int .i64 c).wf = true := WalkArith.wf_i64 (by omega)
  obtain ⟨m, hm⟩ : ∃ m, N - 1 = m := ⟨_, rfl⟩
  have wm : (Lit.int .i64 m).wf = true := WalkArith.wf_i64 (by omega)
  obtain ⟨jst, hj⟩ : ∃ j, (nd + 1) % N = j := ⟨_, rfl⟩
  have hj0 : 0 ≤ jst := by rw [← hj]; exact Int.emod_nonneg _ (by omega)
  have hj1 : jst < N := by rw [← hj]; exact Int.emod_lt_of_pos _ (by omega)
  have C4 := Lib.hid (fun w' => plat_parity_val N S w' m (by rw [show parityI N S = N - 1 from if_pos HR.out, hm]))
  have KA := Lib.hid (fun (k : Int) (k0 : 0 ≤ k) (k1 : k < S) (k2 : k < N) => (show ∃ v : Int, (v = nd ↔ k = jst) ∧ ∀ w', Calls Try.prog 22 #[.agg #[.int .i64 N, .int .i64 S], .int .i64 k, .int .i64 m] w' fun e w'' => e = .returned (.int .i64 v) ∧ Below w'.heap.size w' w'' from
    ⟨(k + (N - 1)) % N, by rw [← hj]; exact round_is n3 n6 k0 k2 i1 j1, fun w' => plat_nodeOf_val N S k m w' _ HN.out HS.out (WalkArith.wf_i64 (by omega)) wm (by rw [← hm]; exact if_pos ⟨HR.out, k0, k1, by omega, by omega⟩)⟩))
  have KB := Lib.hid (fun (k : Int) (k0 : 0 ≤ k) (k1 : k < S) (w' : World) => plat_nodeOf_val N S k c w' ((k + c) % N) HN.out HS.out (WalkArith.wf_i64 (by omega)) wc (if_pos ⟨HR.out, k0, k1, i2, j2⟩))
  clear hd hc hj wc wm HN HS HR hnd hcc hm
  obtain ⟨_, c0, c1⟩ := g3
  go_wp2_with fail
  refine (P1.out _).mono ?_
  rintro e w4 ⟨rfl, rfl⟩
  go_wp2_with fail
  refine (P2.out _).mono ?_
  rintro e w4 ⟨rfl, rfl⟩
  go_wp2_with fail
  clear c0 c1 P1 P2
  generalize w2.alloc (.cells #[.int .i64 N, .int .i64 S] 23) = W at *
  generalize w2.heap.size = g at *
  go_loopw [9, 10] (fun v i wr => ∃ k : Int, 0 ≤ k ∧ k ≤ S ∧ i = .int .i64 k ∧ v = .int .i64 (if jst < k then 1 else 0) ∧ Geo wr g N S ∧ Below w.heap.size w wr) (fun _ i _ => (S - intOf i).toNat)
  case atStart => exact ⟨0, by omega, by omega, rfl, by rw [if_neg (by omega)], G3.out, b3⟩
  case round =>
    obtain ⟨k, kk0, kk1, rfl, rfl, hg, hbr⟩ := hrel
    clear G3 b3
    obtain ⟨glt, c0, c1⟩ := hg
    by_cases hks : k < S
    · have dks : decide (k < S) = true := decide_eq_true hks
      have bd := hbr.drew
      have B2 := Lib.hid (fun w' => KB.out k kk0 hks w')
      obtain ⟨x, hx⟩ : ∃ x, (k + c) % N = x := ⟨_, rfl⟩
      have hx0 : 0 ≤ x := by rw [← hx]; exact Int.emod_nonneg _ (by omega)
      have hx1 : x < N := by rw [← hx]; exact Int.emod_lt_of_pos _ (by omega)
      rw [hx] at B2
      -- what the first test comes to
      obtain ⟨v, A1⟩ : ∃ v : Int, k < N → (v = nd ↔ k = jst) ∧ Hid (∀ w', Calls Try.prog 22 #[.agg #[.int .i64 N, .int .i64 S], .int .i64 k, .int .i64 m] w' fun e w'' => e = .returned (.int .i64 v) ∧ Below w'.heap.size w' w'') := by
        by_cases h : k < N
        · obtain ⟨v, h1, h2⟩ := KA.out k kk0 hks h
          exact ⟨v, fun _ => ⟨h1, Lib.hid h2⟩⟩
        · exact ⟨0, fun h2 => absurd h2 h⟩
      have hfirst : (Hid (k = jst) ∧ decide (k < N) = true ∧ v = nd) ∨ (Hid (k ≠ jst) ∧ decide (k < N) = true ∧ (v == nd) = false) ∨ (Hid (k ≠ jst) ∧ decide (k < N) = false) := by
        by_cases h : k < N
        · by_cases h2 : k = jst
          · exact Or.inl ⟨Lib.hid h2, decide_eq_true h, (A1 h).1.2 h2⟩
          · exact Or.inr (Or.inl ⟨Lib.hid h2, decide_eq_true h, by simp only [beq_eq_false_iff_ne, ne_eq]; exact fun e => h2 ((A1 h).1.1 e)⟩)
        · exact Or.inr (Or.inr ⟨Lib.hid (by omega), decide_eq_false h⟩)
      have hsecond : decide (0 < k) = false ∨ (decide (0 < k) = true ∧ ∃ y : Int, 0 ≤ y ∧ y < N ∧ (y + 1) % N = x ∧ (y + 1).tmod N = x ∧ Hid (∀ w', Calls Try.prog 22 #[.agg #[.int .i64 N, .int .i64 S], .int .i64 (k - 1), .int .i64 c] w' fun e w'' => e = .returned (.int .i64 y) ∧ Below w'.heap.size w' w'')) := by
        by_cases h : 0 < k
        · refine Or.inr ⟨decide_eq_true h, (k - 1 + c) % N, Int.emod_nonneg _ (by omega), Int.emod_lt_of_pos _ (by omega), by rw [next_is n3 n6, hx], ?_, Lib.hid (KB.out (k - 1) (by omega) (by omega))⟩
          rw [Int.tmod_eq_emod_of_nonneg (by have := Int.emod_nonneg (k - 1 + c) (show N ≠ 0 by omega); omega), next_is n3 n6, hx]
        · exact Or.inl (decide_eq_false h)
      have hN0 : (N == 0) = false := by simp only [beq_eq_false_iff_ne, ne_eq]; omega
      have hNz : N ≠ 0 := by omega
      have hN1 : (0 : Int) < N := by omega
      have hmany : (if jst < k then (1 : Int) else 0) = (if jst < k then 1 else 0) := rfl
      obtain ⟨q, hq⟩ : ∃ q, (if jst < k then (1 : Int) else 0) = q := ⟨_, rfl⟩
      have hq0 : 0 ≤ q ∧ q ≤ 1 := by rw [← hq]; split <;> omega
      obtain ⟨hq0, hq1⟩ := hq0
      rw [hq]
      have HQ := Lib.hid hq
      clear hmany hq KA KB hx
      rcases hfirst with ⟨h1, h2, h3⟩ | ⟨h1, h2, h3⟩ | ⟨h1, h2⟩
      · have A2 := (A1 (of_decide_eq_true h2)).2
        clear A1
        subst h3
        have hend : q + 1 = (if jst < k + 1 then (1 : Int) else 0) := by have := h1.out; rw [← HQ.out, if_neg (by omega), if_pos (by omega)]; rfl
        have HE := Lib.hid hend
        clear hend
        go_wp2_with fail
        go_region_held3 (fun w' => w'.cell? ⟨g, 0, none⟩ = some (.int .i64 N) ∧ w'.cell? ⟨g, 1, none⟩ = some (.int .i64 S))
          (first
            | exact ⟨by assumption, by assumption⟩)
          (first
            | ((first
                | (go_at_call 20; with_reducible refine (C4.out _).mono ?_)
                | (go_at_call 22; with_reducible refine (A2.out _).mono ?_)); rintro e w19 ⟨rfl, b19⟩
               have k0 : w19.cell? ⟨g, 0, none⟩ = some (.int .i64 N) := keep_cell b19 (by assumption)
               have k1 : w19.cell? ⟨g, 1, none⟩ = some (.int .i64 S) := keep_cell b19 (by assumption)
               have bb : Below w.heap.size w w19 := below_call (by assumption) b19
               have gg : g < w19.heap.size := Nat.lt_of_lt_of_le (by assumption) b19.size))
        all_goals
          go_wp2_with fail
          rcases hsecond with e1 | ⟨e1, y, y0, y1, y2, y3, A3⟩
          · go_wp2_with fail
            go_region
            all_goals
              go_wp2
              go_roundw
              case rel => exact ⟨k + 1, by omega, by omega, by first | rfl | go_num, int_eq (by rw [HE.out]), ⟨by assumption, by assumption, by assumption⟩, by first | assumption | exact Below.drew (by assumption) | exact Below.drew (Below.drew (by assumption))⟩
              case measure => simp [intOf]; omega
          · go_wp2_with fail
            have wk : IntKind.i64.wrap (k - 1) = k - 1 := by rw [IntKind.wrap_i64]; omega
            have wx : IntKind.i64.wrap x = x := by rw [IntKind.wrap_i64]; omega
            have yn : (x != x) = false := by simp
            have wy : IntKind.i64.wrap (y + 1) = y + 1 := by rw [IntKind.wrap_i64]; omega
            have bd2 : Below w.heap.size w _ := Below.drew (by assumption)
            go_region_held3 (fun w' => w'.cell? ⟨g, 0, none⟩ = some (.int .i64 N) ∧ w'.cell? ⟨g, 1, none⟩ = some (.int .i64 S))
              (first
                | exact ⟨by assumption, by assumption⟩)
              (first
                | ((first
                    | (go_at_call 22; with_reducible refine (B2.out _).mono ?_)
                    | (go_at_call 22; with_reducible refine (A3.out _).mono ?_)); rintro e w19 ⟨rfl, b19⟩
                   have k0 : w19.cell? ⟨g, 0, none⟩ = some (.int .i64 N) := keep_cell b19 (by assumption)
                   have k1 : w19.cell? ⟨g, 1, none⟩ = some (.int .i64 S) := keep_cell b19 (by assumption)
                   have bb : Below w.heap.size w w19 := below_call (by assumption) b19
                   have gg : g < w19.heap.size := Nat.lt_of_lt_of_le (by assumption) b19.size))
            all_goals
              go_wp2
              go_roundw
              case rel => exact ⟨k + 1, by omega, by omega, by first | rfl | go_num, int_eq (by rw [HE.out]), ⟨by assumption, by assumption, by assumption⟩, by first | assumption | exact Below.drew (by assumption) | exact Below.drew (Below.drew (by assumption))⟩
              case measure => simp [intOf]; omega
      · have A2 := (A1 (of_decide_eq_true h2)).2
        clear A1
        have hend : q = (if jst < k + 1 then (1 : Int) else 0) := by have := h1.out; rw [← HQ.out]; by_cases hh : jst < k; (rw [if_pos hh, if_pos (by omega)]); (rw [if_neg hh, if_neg (by omega)])
        have HE := Lib.hid hend
        clear hend
        go_wp2_with fail
        go_region_held3 (fun w' => w'.cell? ⟨g, 0, none⟩ = some (.int .i64 N) ∧ w'.cell? ⟨g, 1, none⟩ = some (.int .i64 S))
          (first
            | exact ⟨by assumption, by assumption⟩)
          (first
            | ((first
                | (go_at_call 20; with_reducible refine (C4.out _).mono ?_)
                | (go_at_call 22; with_reducible refine (A2.out _).mono ?_)); rintro e w19 ⟨rfl, b19⟩
               have k0 : w19.cell? ⟨g, 0, none⟩ = some (.int .i64 N) := keep_cell b19 (by assumption)
               have k1 : w19.cell? ⟨g, 1, none⟩ = some (.int .i64 S) := keep_cell b19 (by assumption)
               have bb : Below w.heap.size w w19 := below_call (by assumption) b19
               have gg : g < w19.heap.size := Nat.lt_of_lt_of_le (by assumption) b19.size))
        all_goals
          go_wp2_with fail
          rcases hsecond with e1 | ⟨e1, y, y0, y1, y2, y3, A3⟩
          · go_wp2_with fail
            go_region
            all_goals
              go_wp2
              go_roundw
              case rel => exact ⟨k + 1, by omega, by omega, by first | rfl | go_num, int_eq (by rw [HE.out]), ⟨by assumption, by assumption, by assumption⟩, by first | assumption | exact Below.drew (by assumption) | exact Below.drew (Below.drew (by assumption))⟩
              case measure => simp [intOf]; omega
          · go_wp2_with fail
            have wk : IntKind.i64.wrap (k - 1) = k - 1 := by rw [IntKind.wrap_i64]; omega
            have wx : IntKind.i64.wrap x = x := by rw [IntKind.wrap_i64]; omega
            have yn : (x != x) = false := by simp
            have wy : IntKind.i64.wrap (y + 1) = y + 1 := by rw [IntKind.wrap_i64]; omega
            have bd2 : Below w.heap.size w _ := Below.drew (by assumption)
            go_region_held3 (fun w' => w'.cell? ⟨g, 0, none⟩ = some (.int .i64 N) ∧ w'.cell? ⟨g, 1, none⟩ = some (.int .i64 S))
              (first
                | exact ⟨by assumption, by assumption⟩)
              (first
                | ((first
                    | (go_at_call 22; with_reducible refine (B2.out _).mono ?_)
                    | (go_at_call 22; with_reducible refine (A3.out _).mono ?_)); rintro e w19 ⟨rfl, b19⟩
                   have k0 : w19.cell? ⟨g, 0, none⟩ = some (.int .i64 N) := keep_cell b19 (by assumption)
                   have k1 : w19.cell? ⟨g, 1, none⟩ = some (.int .i64 S) := keep_cell b19 (by assumption)
                   have bb : Below w.heap.size w w19 := below_call (by assumption) b19
                   have gg : g < w19.heap.size := Nat.lt_of_lt_of_le (by assumption) b19.size))
            all_goals
              go_wp2
              go_roundw
              case rel => exact ⟨k + 1, by omega, by omega, by first | rfl | go_num, int_eq (by rw [HE.out]), ⟨by assumption, by assumption, by assumption⟩, by first | assumption | exact Below.drew (by assumption) | exact Below.drew (Below.drew (by assumption))⟩
              case measure => simp [intOf]; omega
      · clear A1
        have hend : q = (if jst < k + 1 then (1 : Int) else 0) := by have := h1.out; rw [← HQ.out]; by_cases hh : jst < k; (rw [if_pos hh, if_pos (by omega)]); (rw [if_neg hh, if_neg (by omega)])
        have HE := Lib.hid hend
        clear hend
        go_wp2_with fail
        go_region
        all_goals
          go_wp2_with fail
          rcases hsecond with e1 | ⟨e1, y, y0, y1, y2, y3, A3⟩
          · go_wp2_with fail
            go_region
            all_goals
              go_wp2
              go_roundw
              case rel => exact ⟨k + 1, by omega, by omega, by first | rfl | go_num, int_eq (by rw [HE.out]), ⟨by assumption, by assumption, by assumption⟩, by first | assumption | exact Below.drew (by assumption) | exact Below.drew (Below.drew (by assumption))⟩
              case measure => simp [intOf]; omega
          · go_wp2_with fail
            have wk : IntKind.i64.wrap (k - 1) = k - 1 := by rw [IntKind.wrap_i64]; omega
            have wx : IntKind.i64.wrap x = x := by rw [IntKind.wrap_i64]; omega
            have yn : (x != x) = false := by simp
            have wy : IntKind.i64.wrap (y + 1) = y + 1 := by rw [IntKind.wrap_i64]; omega
            have bd2 : Below w.heap.size w _ := Below.drew (by assumption)
            go_region_held3 (fun w' => w'.cell? ⟨g, 0, none⟩ = some (.int .i64 N) ∧ w'.cell? ⟨g, 1, none⟩ = some (.int .i64 S))
              (first
                | exact ⟨by assumption, by assumption⟩)
              (first
                | ((first
                    | (go_at_call 22; with_reducible refine (B2.out _).mono ?_)
                    | (go_at_call 22; with_reducible refine (A3.out _).mono ?_)); rintro e w19 ⟨rfl, b19⟩
                   have k0 : w19.cell? ⟨g, 0, none⟩ = some (.int .i64 N) := keep_cell b19 (by assumption)
                   have k1 : w19.cell? ⟨g, 1, none⟩ = some (.int .i64 S) := keep_cell b19 (by assumption)
                   have bb : Below w.heap.size w w19 := below_call (by assumption) b19
                   have gg : g < w19.heap.size := Nat.lt_of_lt_of_le (by assumption) b19.size))
            all_goals
              go_wp2
              go_roundw
              case rel => exact ⟨k + 1, by omega, by omega, by first | rfl | go_num, int_eq (by rw [HE.out]), ⟨by assumption, by assumption, by assumption⟩, by first | assumption | exact Below.drew (by assumption) | exact Below.drew (Below.drew (by assumption))⟩
              case measure => simp [intOf]; omega
    · have e : k = S := by omega
      subst e
      have dks : decide (k < k) = false := by simp
      obtain ⟨q, hq⟩ : ∃ q, (if jst < k then (1 : Int) else 0) = q := ⟨_, rfl⟩
      have hq2 : decide (q ≤ 1) = true ∧ (decide (k < N) = true ∨ (decide (k < N) = false ∧ q = 1)) := by
        by_cases h : jst < k
        · rw [if_pos h] at hq
          subst hq
          by_cases h2 : k < N
          · exact ⟨by decide, Or.inl (decide_eq_true h2)⟩
          · exact ⟨by decide, Or.inr ⟨decide_eq_false h2, rfl⟩⟩
        · rw [if_neg h] at hq
          subst hq
          exact ⟨by decide, Or.inl (decide_eq_true (by omega))⟩
      rw [hq]
      clear hq KA KB
      obtain ⟨h1, h2 | ⟨h2, rfl⟩⟩ := hq2
      all_goals
        go_wp2
        go_ret
        exact ⟨rfl, hbr⟩
end Go.Proofs.Ytnlphinhkdhaeaa

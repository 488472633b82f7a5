/- The statements of layer 5: walks, continued: nodes and columns. -/
import Derived.Test.YtnlphinhkdhaeaaPlatLaws
namespace Go.Proofs.Ytnlphinhkdhaeaa
open Go.RowKit Go.ChangeShapes Go.WideShapes

theorem nodes_unlike {N s a b : Int} (n3 : 3 ≤ N) (n6 : N ≤ 6) (_s0 : 0 ≤ s) (_s7 : s < 8) (a0 : 0 ≤ a) (a1 : a < N) (b0 : 0 ≤ b) (b1 : b < N) : (s + a) % N = (s + b) % N ↔ a = b := by
  have hN : N = 3 ∨ N = 4 ∨ N = 5 ∨ N = 6 := by omega
  rcases hN with rfl | rfl | rfl | rfl <;> omega
theorem col_node {N s a : Int} (n3 : 3 ≤ N) (n6 : N ≤ 6) (_s0 : 0 ≤ s) (_s7 : s < 8) (a0 : 0 ≤ a) (a1 : a < N) : ((s + a) % N - s) % N = a := by
  have hN : N = 3 ∨ N = 4 ∨ N = 5 ∨ N = 6 := by omega
  rcases hN with rfl | rfl | rfl | rfl <;> omega
theorem node_col {N s b : Int} (n3 : 3 ≤ N) (n6 : N ≤ 6) (_s0 : 0 ≤ s) (_s7 : s < 8) (b0 : 0 ≤ b) (b1 : b < N) : (s + (b - s) % N) % N = b := by
  have hN : N = 3 ∨ N = 4 ∨ N = 5 ∨ N = 6 := by omega
  rcases hN with rfl | rfl | rfl | rfl <;> omega

set_option maxRecDepth 100000 in
set_option maxHeartbeats 3200000 in
/-- PlatNodes -/
theorem platNodes_any (ra rb st0 a0 b0 : Int) (w : World) (hra : (Lit.int .i64 ra).wf = true) (hrb : (Lit.int .i64 rb).wf = true) (hst : (Lit.int .i64 st0).wf = true) (ha : (Lit.int .i64 a0).wf = true) (hb : (Lit.int .i64 b0).wf = true) :
    Holds Try.prog 6 #[.agg #[.int .i64 ra, .int .i64 rb], .int .i64 st0, .int .i64 a0, .int .i64 b0] w := by
  unfold Holds
  go_enter Try.func6, Try.ntmps6
  go_wp2_with fail
  refine (awake05 _).mono ?_
  rintro e w1 ⟨rfl, b1⟩
  have g1 := (Geo.boxed w ra rb 23).later b1
  replace b1 := below_boxed b1
  obtain ⟨_, c0, c1⟩ := g1
  go_wp2_with fail
  clear c0 c1
  refine (fit05 ra rb _ hra hrb).mono ?_
  rintro e w2 ⟨N, S, n3, n6, s1, s8, rfl, b2⟩
  replace b2 := below_call b1 b2
  have g3 := Geo.boxed w2 N S 23
  have b3 := b2.alloc b2.size (.cells #[.int .i64 N, .int .i64 S] 23)
  have hN : (Lit.int .i64 N).wf = true := WalkArith.wf_i64 (by omega)
  have hS : (Lit.int .i64 S).wf = true := WalkArith.wf_i64 (by omega)
  have hr : rightB N S = true := (right_iff N S).2 ⟨n3, n6, s1, s8⟩
  have HN := Lib.hid hN
  have HS := Lib.hid hS
  have HR := Lib.hid hr
  have G3 := Lib.hid g3
  clear hN hS hr b1 b2
  obtain ⟨s, hs⟩ : ∃ s, pickI st0 S = s := ⟨_, rfl⟩
  obtain ⟨a, haa⟩ : ∃ a, pickI a0 N = a := ⟨_, rfl⟩
  obtain ⟨b, hbb⟩ : ∃ b, pickI b0 N = b := ⟨_, rfl⟩
  have P1 := Lib.hid (fun w' => pick05 st0 S w' hst (by omega) (by omega))
  have P2 := Lib.hid (fun w' => pick05 a0 N w' ha (by omega) (by omega))
  have P3 := Lib.hid (fun w' => pick05 b0 N w' hb (by omega) (by omega))
  have i1 := pickI_in st0 S (by omega)
  have i2 := pickI_in a0 N (by omega)
  have i3 := pickI_in b0 N (by omega)
  rw [hs] at P1 i1
  rw [haa] at P2 i2
  rw [hbb] at P3 i3
  obtain ⟨i1, j1⟩ := i1
  obtain ⟨i2, j2⟩ := i2
  obtain ⟨i3, j3⟩ := i3
  have ws : (Lit.int .i64 s).wf = true := WalkArith.wf_i64 (by omega)
  have wa : (Lit.int .i64 a).wf = true := WalkArith.wf_i64 (by omega)
  have wb : (Lit.int .i64 b).wf = true := WalkArith.wf_i64 (by omega)
  have hx := node_is (N := N) (S := S) (st := s) (c := a) ⟨HR.out, i1, j1, i2, j2⟩
  have hy := node_is (N := N) (S := S) (st := s) (c := b) ⟨HR.out, i1, j1, i3, j3⟩
  have un := nodes_unlike n3 n6 i1 (by omega) i2 j2 i3 j3
  have cn := col_node n3 n6 i1 (show s < 8 by omega) i2 j2
  have nc := node_col n3 n6 i1 (show s < 8 by omega) i3 j3
  obtain ⟨x, hxx⟩ : ∃ x, (s + a) % N = x := ⟨_, rfl⟩
  obtain ⟨y, hyy⟩ : ∃ y, (s + b) % N = y := ⟨_, rfl⟩
  obtain ⟨z, hzz⟩ : ∃ z, (b - s) % N = z := ⟨_, rfl⟩
  rw [hxx] at hx un cn
  rw [hyy] at hy un
  rw [hzz] at nc
  have hz0 : 0 ≤ z := by rw [← hzz]; exact Int.emod_nonneg _ (by omega)
  have hz1 : z < N := by rw [← hzz]; exact Int.emod_lt_of_pos _ (by omega)
  have wx : (Lit.int .i64 x).wf = true := WalkArith.wf_i64 (by omega)
  have wz : (Lit.int .i64 z).wf = true := WalkArith.wf_i64 (by omega)
  have hcx : colI N S s x = a := by rw [show colI N S s x = (x - s) % N from if_pos ⟨HR.out, i1, j1, hx.2.1, hx.2.2⟩, cn]
  have hcb : colI N S s b = z := by rw [show colI N S s b = (b - s) % N from if_pos ⟨HR.out, i1, j1, i3, j3⟩, hzz]
  have hnz : nodeI N S s z = b := by rw [show nodeI N S s z = (s + z) % N from if_pos ⟨HR.out, i1, j1, hz0, hz1⟩, nc]
  have C1 := Lib.hid (fun w' => plat_nodeOf_val N S s a w' x HN.out HS.out ws wa hx.1)
  have C2 := Lib.hid (fun w' => plat_nodeOf_val N S s b w' y HN.out HS.out ws wb hy.1)
  have C3 := Lib.hid (fun w' => plat_columnOf_val N S s x w' a HN.out HS.out ws wx hcx)
  have C4 := Lib.hid (fun w' => plat_columnOf_val N S s b w' z HN.out HS.out ws wb hcb)
  have C5 := Lib.hid (fun w' => plat_nodeOf_val N S s z w' b HN.out HS.out ws wz hnz)
  have d1 : decide (0 ≤ x) = true := decide_eq_true hx.2.1
  have d2 : decide (x < N) = true := decide_eq_true hx.2.2
  obtain ⟨d, hd⟩ : ∃ d : Bool, (a == b) = d := ⟨_, rfl⟩
  have hd2 : (x == y) = d := by
    rw [← hd]
    exact decide_eq_decide.2 un
  clear ws wa wb wx wz hx hy un cn nc hcx hcb hnz hs haa hbb hxx hyy hzz HN HS HR hz0 hz1
  obtain ⟨_, c0, c1⟩ := g3
  go_wp2_with fail
  refine (P1.out _).mono ?_
  rintro e w4 ⟨rfl, rfl⟩
  go_wp2_with fail
  refine (P2.out _).mono ?_
  rintro e w4 ⟨rfl, rfl⟩
  go_wp2_with fail
  refine (P3.out _).mono ?_
  rintro e w4 ⟨rfl, rfl⟩
  go_wp2_with fail
  refine (C1.out _).mono ?_
  rintro e w4 ⟨rfl, b4⟩
  have g4 := G3.out.later b4
  replace b4 := below_call b3 b4
  have G4 := Lib.hid g4
  clear c0 c1
  obtain ⟨_, c0, c1⟩ := g4
  go_wp2_with fail
  refine (C2.out _).mono ?_
  rintro e w5 ⟨rfl, b5⟩
  have g5 := G4.out.later b5
  replace b5 := below_call b4 b5
  clear c0 c1 G3 G4 b3 b4
  obtain ⟨_, c0, c1⟩ := g5
  generalize w2.heap.size = g at *
  go_wp2_with fail
  have b8 := b5.drew
  go_region_held3 (fun w' => w'.cell? ⟨g, 0, none⟩ = some (.int .i64 N) ∧ w'.cell? ⟨g, 1, none⟩ = some (.int .i64 S))
    (first
      | exact ⟨k0, k1⟩
      | exact ⟨c0, c1⟩)
    (first
      | ((first
          | (go_at_call 24; with_reducible refine (C3.out _).mono ?_)
          | (go_at_call 24; with_reducible refine (C4.out _).mono ?_)
          | (go_at_call 22; with_reducible refine (C5.out _).mono ?_)); rintro e w9 ⟨rfl, b9⟩
         have k0 : w9.cell? ⟨g, 0, none⟩ = some (.int .i64 N) := keep_cell b9 (by assumption)
         have k1 : w9.cell? ⟨g, 1, none⟩ = some (.int .i64 S) := keep_cell b9 (by assumption)
         have bb : Below w.heap.size w w9 := below_call (by assumption) b9))
  all_goals
    go_wp2
    go_ret
    exact ⟨by simp, bb⟩
end Go.Proofs.Ytnlphinhkdhaeaa

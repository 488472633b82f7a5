/- The statements of layer 5: walks, continued: right geometries. -/
import Derived.Test.YtnlphinhkdhaeaaPlatLawsB
import Derived.Test.YtnlphinhkdhaeaaPlatLawsD
namespace Go.Proofs.Ytnlphinhkdhaeaa
open Go.RowKit Go.ChangeShapes Go.WideShapes

set_option maxRecDepth 100000 in
set_option maxHeartbeats 3200000 in
/-- PlatPlaces -/
theorem platPlaces_any (ra rb b0 t0 c0 : Int) (w : World) (hra : (Lit.int .i64 ra).wf = true) (hrb : (Lit.int .i64 rb).wf = true) (hb : (Lit.int .i64 b0).wf = true) (ht : (Lit.int .i64 t0).wf = true) (hc : (Lit.int .i64 c0).wf = true) :
    Holds Try.prog 4 #[.agg #[.int .i64 ra, .int .i64 rb], .int .i64 b0, .int .i64 t0, .int .i64 c0] w := by
  unfold Holds
  go_enter Try.func4, Try.ntmps4
  go_wp2_with fail
  refine (fit05 ra rb _ hra hrb).mono ?_
  rintro e w2 ⟨N, S, n3, n6, s1, s8, rfl, b2⟩
  replace b2 := below_boxed b2
  have g3 := Geo.boxed w2 N S 23
  have b3 := b2.alloc b2.size (.cells #[.int .i64 N, .int .i64 S] 23)
  have hN : (Lit.int .i64 N).wf = true := WalkArith.wf_i64 (by omega)
  have hS : (Lit.int .i64 S).wf = true := WalkArith.wf_i64 (by omega)
  have hr : rightB N S = true := (right_iff N S).2 ⟨n3, n6, s1, s8⟩
  obtain ⟨V, hV⟩ : ∃ V, S * (N - 1) = V := ⟨_, rfl⟩
  have mb := many_blocks n3 n6 s1 s8
  rw [hV] at mb
  obtain ⟨mb0, mb1⟩ := mb
  have C0 := Lib.hid (fun w' => ref05_blocks_val N S w' V (by rw [show blocksI N S = S * (N - 1) from if_pos hr, hV]))
  obtain ⟨x, hx⟩ : ∃ x, pickI b0 V = x := ⟨_, rfl⟩
  obtain ⟨y, hy⟩ : ∃ y, pickI t0 S = y := ⟨_, rfl⟩
  obtain ⟨z, hz⟩ : ∃ z, pickI c0 N = z := ⟨_, rfl⟩
  have P1 := Lib.hid (fun w' => pick05 b0 V w' hb (by omega) (by omega))
  have P2 := Lib.hid (fun w' => pick05 t0 S w' ht (by omega) (by omega))
  have P3 := Lib.hid (fun w' => pick05 c0 N w' hc (by omega) (by omega))
  have i1 := pickI_in b0 V (by omega)
  have i2 := pickI_in t0 S (by omega)
  have i3 := pickI_in c0 N (by omega)
  rw [hx] at P1 i1
  rw [hy] at P2 i2
  rw [hz] at P3 i3
  have wx : (Lit.int .i64 x).wf = true := WalkArith.wf_i64 (by omega)
  have wy : (Lit.int .i64 y).wf = true := WalkArith.wf_i64 (by omega)
  have wz : (Lit.int .i64 z).wf = true := WalkArith.wf_i64 (by omega)
  have T := Lib.hid (fun w' => (show Calls Try.prog 3 #[.agg #[.int .i64 N, .int .i64 S], .int .i64 x, .int .i64 y, .int .i64 z] w' fun e w'' => e = .returned (.bool true) ∧ Below w'.heap.size w' w'' from platTells_any N S x y z w' hN hS wx wy wz))
  clear hN hS hr hV hx hy hz wx wy wz i1 i2 i3 hb ht hc hra hrb
  obtain ⟨_, q0, q1⟩ := g3
  go_wp2_with fail
  have b4 := b3.drew
  generalize w2.alloc (.cells #[.int .i64 N, .int .i64 S] 23) = W at *
  generalize w2.heap.size = g at *
  go_region_held3 (fun w' => w'.cell? ⟨g, 0, none⟩ = some (.int .i64 N) ∧ w'.cell? ⟨g, 1, none⟩ = some (.int .i64 S))
    (first
      | exact ⟨by assumption, by assumption⟩)
    (first
      | (((first
          | (go_at_call 19; with_reducible refine (C0.out _).mono ?_)
          | (go_at_call 3; with_reducible refine (T.out _).mono ?_)); rintro e w9 ⟨rfl, b9⟩)
         have k0 : w9.cell? ⟨g, 0, none⟩ = some (.int .i64 N) := keep_cell b9 (by assumption)
         have k1 : w9.cell? ⟨g, 1, none⟩ = some (.int .i64 S) := keep_cell b9 (by assumption)
         have bb : Below w.heap.size w w9 := below_call (by assumption) b9)
      | (go_at_call 27; (first
          | with_reducible refine (P1.out _).mono ?_
          | with_reducible refine (P2.out _).mono ?_
          | with_reducible refine (P3.out _).mono ?_); rintro e w9 ⟨rfl, rfl⟩))
  all_goals
    go_wp2
    go_ret
    exact ⟨rfl, bb⟩
end Go.Proofs.Ytnlphinhkdhaeaa

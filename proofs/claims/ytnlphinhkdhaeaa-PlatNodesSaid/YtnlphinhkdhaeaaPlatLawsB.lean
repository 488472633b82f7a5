/- The statements of layer 5: walks, continued: the document's answer. -/
import Derived.Test.YtnlphinhkdhaeaaPlatLaws
namespace Go.Proofs.Ytnlphinhkdhaeaa
open Go.RowKit Go.ChangeShapes Go.WideShapes

set_option maxRecDepth 100000 in
set_option maxHeartbeats 3200000 in
/-- PlatTells -/
theorem platTells_any (N S b st c : Int) (w : World) (hn : (Lit.int .i64 N).wf = true) (hs : (Lit.int .i64 S).wf = true) (hb : (Lit.int .i64 b).wf = true) (ht : (Lit.int .i64 st).wf = true) (hc : (Lit.int .i64 c).wf = true) :
    Holds Try.prog 3 #[.agg #[.int .i64 N, .int .i64 S], .int .i64 b, .int .i64 st, .int .i64 c] w := by
  obtain ⟨o1, ho1⟩ : ∃ x, ofS N S b = x := ⟨_, rfl⟩
  obtain ⟨o2, ho2⟩ : ∃ x, ofC N S b = x := ⟨_, rfl⟩
  obtain ⟨o3, ho3⟩ : ∃ x, ofN N S b = x := ⟨_, rfl⟩
  obtain ⟨o4, ho4⟩ : ∃ x, ofE N S b = x := ⟨_, rfl⟩
  obtain ⟨n1, hn1⟩ : ∃ x, numB N S st c = x := ⟨_, rfl⟩
  obtain ⟨n2, hn2⟩ : ∃ x, isB N S st c = x := ⟨_, rfl⟩
  obtain ⟨r1, hr1⟩ : ∃ x, rightB N S = x := ⟨_, rfl⟩
  obtain ⟨r2, hr2⟩ : ∃ x, blocksI N S = x := ⟨_, rfl⟩
  obtain ⟨r3, hr3⟩ : ∃ x, parityI N S = x := ⟨_, rfl⟩
  obtain ⟨r4, hr4⟩ : ∃ x, nodeI N S st c = x := ⟨_, rfl⟩
  obtain ⟨r5, hr5⟩ : ∃ x, colI N S st c = x := ⟨_, rfl⟩
  have hV : ofV N S b = .tuple #[.agg #[.int .i64 o1, .int .i64 o2, .int .i64 o3], .int .i64 o4] := by unfold ofV; rw [ho1, ho2, ho3, ho4]
  have C1 := Lib.hid (fun w' => plat_of_val N S b w' _ hn hs hb hV)
  have D1 := Lib.hid (fun w' => ref05_of N S b w')
  have C2 := Lib.hid (fun w' => plat_block_val N S st c w' _ _ hn hs ht hc hn1 hn2)
  have D2 := Lib.hid (fun w' => ref05_block N S st c w')
  have C3 := Lib.hid (fun w' => plat_right_val N S w' _ hr1)
  have D3 := Lib.hid (fun w' => ref05_right_val N S w' _ hr1)
  have C4 := Lib.hid (fun w' => plat_blocks_val N S w' _ hr2)
  have D4 := Lib.hid (fun w' => ref05_blocks_val N S w' _ hr2)
  have C5 := Lib.hid (fun w' => plat_parity_val N S w' _ hr3)
  have D5 := Lib.hid (fun w' => ref05_parity_val N S w' _ hr3)
  have C6 := Lib.hid (fun w' => plat_nodeOf_val N S st c w' _ hn hs ht hc hr4)
  have D6 := Lib.hid (fun w' => ref05_nodeOf_val N S st c w' _ hr4)
  have C7 := Lib.hid (fun w' => plat_columnOf_val N S st c w' _ hn hs ht hc hr5)
  have D7 := Lib.hid (fun w' => ref05_columnOf N S st c w')
  rw [hV] at D1
  rw [hn1, hn2] at D2
  rw [hr5] at D7
  clear ho1 ho2 ho3 ho4 hn1 hn2 hr1 hr2 hr3 hr4 hr5 hV hn hs hb ht hc
  unfold Holds
  go_enter Try.func3, Try.ntmps3
  go_wp2_with fail
  refine (awake05 _).mono ?_
  rintro e w1 ⟨rfl, b1⟩
  have g1 := (Geo.boxed w N S 23).later b1
  replace b1 := below_boxed b1
  have G1 := Lib.hid g1
  obtain ⟨_, c0, c1⟩ := g1
  go_wp2_with fail
  clear c0 c1
  refine (C1.out _).mono ?_
  rintro e w2 ⟨rfl, b2⟩
  have g2 := G1.out.later b2
  replace b2 := below_call b1 b2
  have p2 := Plc.boxed w2 o1 o2 o3 26
  have g3 := g2.later ((Below.refl _ _).alloc (Nat.le_refl _) (.cells #[.int .i64 o1, .int .i64 o2, .int .i64 o3] 26))
  have b3 := b2.alloc b2.size (.cells #[.int .i64 o1, .int .i64 o2, .int .i64 o3] 26)
  have G3 := Lib.hid g3
  have P3 := Lib.hid p2
  obtain ⟨_, c0, c1⟩ := g3
  go_wp2_with fail
  clear c0 c1 G1
  refine (D1.out _).mono ?_
  rintro e w4 ⟨rfl, b4⟩
  have g4 := G3.out.later b4
  have p4 := P3.out.later b4
  replace b4 := below_call b3 b4
  have q5 := Plc.boxed w4 o1 o2 o3 26
  have g5 := g4.later ((Below.refl _ _).alloc (Nat.le_refl _) (.cells #[.int .i64 o1, .int .i64 o2, .int .i64 o3] 26))
  have p5 := p4.later ((Below.refl _ _).alloc (Nat.le_refl _) (.cells #[.int .i64 o1, .int .i64 o2, .int .i64 o3] 26))
  have b5 := b4.alloc b4.size (.cells #[.int .i64 o1, .int .i64 o2, .int .i64 o3] 26)
  have G5 := Lib.hid g5
  have P5 := Lib.hid p5
  have Q5 := Lib.hid q5
  obtain ⟨_, c0, c1⟩ := g5
  go_wp2_with fail
  clear c0 c1 G3 P3
  refine (C2.out _).mono ?_
  rintro e w6 ⟨rfl, b6⟩
  have g6 := G5.out.later b6
  have p6 := P5.out.later b6
  have q6 := Q5.out.later b6
  replace b6 := below_call b5 b6
  have G6 := Lib.hid g6
  have P6 := Lib.hid p6
  have Q6 := Lib.hid q6
  obtain ⟨_, c0, c1⟩ := g6
  go_wp2_with fail
  clear c0 c1 G5 P5 Q5
  refine (D2.out _).mono ?_
  rintro e w7 ⟨rfl, b7⟩
  have g7 := G6.out.later b7
  have p7 := P6.out.later b7
  have q7 := Q6.out.later b7
  replace b7 := below_call b6 b7
  clear G6 P6 Q6 C1 D1 C2 D2
  obtain ⟨_, c0, c1⟩ := g7
  obtain ⟨_, p0, p1, p2'⟩ := p7
  obtain ⟨_, q0, q1, q2⟩ := q7
  generalize w2.heap.size = g at *
  generalize w4.heap.size = h at *
  clear b1 b2 b3 b4 b5 b6 p2 g2 p4 g4 q5 p5 p6 q6
  go_wp2_with fail
  have b8 := b7.drew
  go_region_held3 (fun w' => w'.cell? ⟨w.heap.size, 0, none⟩ = some (.int .i64 N) ∧ w'.cell? ⟨w.heap.size, 1, none⟩ = some (.int .i64 S) ∧ w'.cell? ⟨g, 0, none⟩ = some (.int .i64 o1) ∧ w'.cell? ⟨g, 1, none⟩ = some (.int .i64 o2) ∧ w'.cell? ⟨g, 2, none⟩ = some (.int .i64 o3) ∧ w'.cell? ⟨h, 0, none⟩ = some (.int .i64 o1) ∧ w'.cell? ⟨h, 1, none⟩ = some (.int .i64 o2) ∧ w'.cell? ⟨h, 2, none⟩ = some (.int .i64 o3))
    (first
      | exact ⟨k0, k1, k2, k3, k4, k5, k6, k7⟩
      | exact ⟨c0, c1, p0, p1, p2', q0, q1, q2⟩)
    (first
      | ((first
          | (go_at_call 16; with_reducible refine (C3.out _).mono ?_)
          | (go_at_call 17; with_reducible refine (D3.out _).mono ?_)
          | (go_at_call 18; with_reducible refine (C4.out _).mono ?_)
          | (go_at_call 19; with_reducible refine (D4.out _).mono ?_)
          | (go_at_call 20; with_reducible refine (C5.out _).mono ?_)
          | (go_at_call 21; with_reducible refine (D5.out _).mono ?_)); rintro e w9 ⟨rfl, b9⟩
         have k0 : w9.cell? ⟨w.heap.size, 0, none⟩ = some (.int .i64 N) := keep_cell b9 (by assumption)
         have k1 : w9.cell? ⟨w.heap.size, 1, none⟩ = some (.int .i64 S) := keep_cell b9 (by assumption)
         have k2 : w9.cell? ⟨g, 0, none⟩ = some (.int .i64 o1) := keep_cell b9 (by assumption)
         have k3 : w9.cell? ⟨g, 1, none⟩ = some (.int .i64 o2) := keep_cell b9 (by assumption)
         have k4 : w9.cell? ⟨g, 2, none⟩ = some (.int .i64 o3) := keep_cell b9 (by assumption)
         have k5 : w9.cell? ⟨h, 0, none⟩ = some (.int .i64 o1) := keep_cell b9 (by assumption)
         have k6 : w9.cell? ⟨h, 1, none⟩ = some (.int .i64 o2) := keep_cell b9 (by assumption)
         have k7 : w9.cell? ⟨h, 2, none⟩ = some (.int .i64 o3) := keep_cell b9 (by assumption)
         have bb : Below w.heap.size w w9 := below_call (by assumption) b9))
  clear C3 D3 C4 D4 C5 D5
  go_wp2_with fail
  have b10 := bb.drew
  go_region_held3 (fun w' => w'.cell? ⟨w.heap.size, 0, none⟩ = some (.int .i64 N) ∧ w'.cell? ⟨w.heap.size, 1, none⟩ = some (.int .i64 S) ∧ w'.cell? ⟨g, 0, none⟩ = some (.int .i64 o1) ∧ w'.cell? ⟨g, 1, none⟩ = some (.int .i64 o2) ∧ w'.cell? ⟨g, 2, none⟩ = some (.int .i64 o3) ∧ w'.cell? ⟨h, 0, none⟩ = some (.int .i64 o1) ∧ w'.cell? ⟨h, 1, none⟩ = some (.int .i64 o2) ∧ w'.cell? ⟨h, 2, none⟩ = some (.int .i64 o3))
    (first
      | exact ⟨k0, k1, k2, k3, k4, k5, k6, k7⟩)
    (first
      | ((first
          | (go_at_call 22; with_reducible refine (C6.out _).mono ?_)
          | (go_at_call 23; with_reducible refine (D6.out _).mono ?_)
          | (go_at_call 24; with_reducible refine (C7.out _).mono ?_)
          | (go_at_call 25; with_reducible refine (D7.out _).mono ?_)); rintro e w9 ⟨rfl, b9⟩
         have k0 : w9.cell? ⟨w.heap.size, 0, none⟩ = some (.int .i64 N) := keep_cell b9 (by assumption)
         have k1 : w9.cell? ⟨w.heap.size, 1, none⟩ = some (.int .i64 S) := keep_cell b9 (by assumption)
         have k2 : w9.cell? ⟨g, 0, none⟩ = some (.int .i64 o1) := keep_cell b9 (by assumption)
         have k3 : w9.cell? ⟨g, 1, none⟩ = some (.int .i64 o2) := keep_cell b9 (by assumption)
         have k4 : w9.cell? ⟨g, 2, none⟩ = some (.int .i64 o3) := keep_cell b9 (by assumption)
         have k5 : w9.cell? ⟨h, 0, none⟩ = some (.int .i64 o1) := keep_cell b9 (by assumption)
         have k6 : w9.cell? ⟨h, 1, none⟩ = some (.int .i64 o2) := keep_cell b9 (by assumption)
         have k7 : w9.cell? ⟨h, 2, none⟩ = some (.int .i64 o3) := keep_cell b9 (by assumption)
         have bb : Below w.heap.size w w9 := below_call (by assumption) b9))
  all_goals
    go_wp2
    go_ret
    exact ⟨rfl, bb⟩
end Go.Proofs.Ytnlphinhkdhaeaa

/- The statements of layer 5: walks. -/
import Derived.Test.YthckkmoafobmnaaPlatWalk
import Derived.Deep.RegionHeld3
import Derived.StillTailTactics
namespace Go.Proofs.Ythckkmoafobmnaa
open Go.RowKit Go.ChangeShapes Go.WideShapes


theorem plat_right_val (N S : Int) (w : World) (r : Bool) (h : rightB N S = r) : Calls Try.prog 42 #[.agg #[.int .i64 N, .int .i64 S]] w fun e w' => e = .returned (.bool r) ∧ Below w.heap.size w w' := by
  subst h
  exact plat_right N S w
theorem plat_blocks_val (N S : Int) (w : World) (v : Int) (h : blocksI N S = v) : Calls Try.prog 44 #[.agg #[.int .i64 N, .int .i64 S]] w fun e w' => e = .returned (.int .i64 v) ∧ Below w.heap.size w w' := by
  subst h
  exact plat_blocks N S w
theorem plat_parity_val (N S : Int) (w : World) (v : Int) (h : parityI N S = v) : Calls Try.prog 45 #[.agg #[.int .i64 N, .int .i64 S]] w fun e w' => e = .returned (.int .i64 v) ∧ Below w.heap.size w w' := by
  subst h
  exact plat_parity N S w
theorem plat_nodeOf_val (N S st c : Int) (w : World) (v : Int) (hn : (Lit.int .i64 N).wf = true) (hs : (Lit.int .i64 S).wf = true) (ht : (Lit.int .i64 st).wf = true) (hc : (Lit.int .i64 c).wf = true) (h : nodeI N S st c = v) : Calls Try.prog 47 #[.agg #[.int .i64 N, .int .i64 S], .int .i64 st, .int .i64 c] w fun e w' => e = .returned (.int .i64 v) ∧ Below w.heap.size w w' := by
  subst h
  exact plat_nodeOf N S st c w hn hs ht hc
theorem plat_columnOf_val (N S st c : Int) (w : World) (v : Int) (hn : (Lit.int .i64 N).wf = true) (hs : (Lit.int .i64 S).wf = true) (ht : (Lit.int .i64 st).wf = true) (hc : (Lit.int .i64 c).wf = true) (h : colI N S st c = v) : Calls Try.prog 49 #[.agg #[.int .i64 N, .int .i64 S], .int .i64 st, .int .i64 c] w fun e w' => e = .returned (.int .i64 v) ∧ Below w.heap.size w w' := by
  subst h
  exact plat_columnOf N S st c w hn hs ht hc
theorem plat_of_val (N S b : Int) (w : World) (v : Value) (hn : (Lit.int .i64 N).wf = true) (hs : (Lit.int .i64 S).wf = true) (hb : (Lit.int .i64 b).wf = true) (h : ofV N S b = v) : Calls Try.prog 39 #[.agg #[.int .i64 N, .int .i64 S], .int .i64 b] w fun e w' => e = .returned v ∧ Below w.heap.size w w' := by
  subst h
  exact plat_of N S b w hn hs hb
theorem plat_block_val (N S st c : Int) (w : World) (v : Int) (r : Bool) (hn : (Lit.int .i64 N).wf = true) (hs : (Lit.int .i64 S).wf = true) (ht : (Lit.int .i64 st).wf = true) (hc : (Lit.int .i64 c).wf = true) (h : numB N S st c = v) (hr : isB N S st c = r) : Calls Try.prog 41 #[.agg #[.int .i64 N, .int .i64 S], .int .i64 st, .int .i64 c] w fun e w' => e = .returned (.tuple #[.int .i64 v, .bool r]) ∧ Below w.heap.size w w' := by
  subst h hr
  exact plat_block N S st c w hn hs ht hc

set_option maxRecDepth 100000 in
set_option maxHeartbeats 1600000 in
theorem awake05 (w : World) : Calls Try.prog 38 #[] w fun e w' => e = .returned (.bool true) ∧ Below w.heap.size w w' := by
  have C1 := Lib.hid (fun w' => plat_of_val 4 3 5 w' (.tuple #[.agg #[.int .i64 1, .int .i64 2, .int .i64 3], .int .i64 0]) (by decide) (by decide) (by decide) (by rw [ofV_yes (by decide)]; rfl))
  have C2 := Lib.hid (fun w' => plat_right_val 4 3 w' true (by decide))
  have C3 := Lib.hid (fun w' => plat_blocks_val 4 3 w' 9 (by decide))
  have C4 := Lib.hid (fun w' => plat_parity_val 4 3 w' 3 (by decide))
  have C5 := Lib.hid (fun w' => plat_nodeOf_val 4 3 1 3 w' 0 (by decide) (by decide) (by decide) (by decide) (by decide))
  have C6 := Lib.hid (fun w' => plat_blocks_val 0 0 w' 0 (by decide))
  have b0 := Below.refl w.heap.size w
  go_enter Try.func38, Try.ntmps38
  go_wp2_with fail
  refine (C1.out _).mono ?_
  rintro e w1 ⟨rfl, b1⟩
  have g1 := (Geo.boxed w 4 3 23).later b1
  replace b1 := below_boxed b1
  have g2 := g1.later ((Below.refl _ _).alloc (Nat.le_refl _) (.cells #[.int .i64 1, .int .i64 2, .int .i64 3] 62))
  have r2 := row_new w1 [.int .i64 1, .int .i64 2, .int .i64 3] 62
  have b2 := b1.alloc b1.size (.cells #[.int .i64 1, .int .i64 2, .int .i64 3] 62)
  have G2 := Lib.hid g2
  have R2 := Lib.hid r2
  clear g2 r2
  obtain ⟨_, c0, c1⟩ := g1
  go_wp2_with fail
  clear c0 c1
  obtain ⟨_, c0, c1⟩ := G2.out
  have p0 := R2.out.cell (j := 0) rfl
  have p1 := R2.out.cell (j := 1) rfl
  have p2 := R2.out.cell (j := 2) rfl
  clear G2 R2 b0 C1
  generalize w1.alloc (.cells #[.int .i64 1, .int .i64 2, .int .i64 3] 62) = W at *
  generalize w1.heap.size = g at *
  have b3 := b2.drew
  go_region_held3 (fun w' => w'.cell? ⟨w.heap.size, 0, none⟩ = some (.int .i64 4) ∧ w'.cell? ⟨w.heap.size, 1, none⟩ = some (.int .i64 3) ∧ w'.cell? ⟨g, 0, none⟩ = some (.int .i64 1) ∧ w'.cell? ⟨g, 1, none⟩ = some (.int .i64 2) ∧ w'.cell? ⟨g, 2, none⟩ = some (.int .i64 3))
    (first
      | exact ⟨k0, k1, k2, k3, k4⟩
      | exact ⟨c0, c1, p0, p1, p2⟩)
    (first
      | ((first
          | (go_at_call 42; with_reducible refine (C2.out _).mono ?_)
          | (go_at_call 44; with_reducible refine (C3.out _).mono ?_)
          | (go_at_call 45; with_reducible refine (C4.out _).mono ?_)
          | (go_at_call 47; with_reducible refine (C5.out _).mono ?_)
          | (go_at_call 44; with_reducible refine (C6.out _).mono ?_)); rintro e w9 ⟨rfl, b9⟩
         have k0 : w9.cell? ⟨w.heap.size, 0, none⟩ = some (.int .i64 4) := keep_cell b9 (by assumption)
         have k1 : w9.cell? ⟨w.heap.size, 1, none⟩ = some (.int .i64 3) := keep_cell b9 (by assumption)
         have k2 : w9.cell? ⟨g, 0, none⟩ = some (.int .i64 1) := keep_cell b9 (by assumption)
         have k3 : w9.cell? ⟨g, 1, none⟩ = some (.int .i64 2) := keep_cell b9 (by assumption)
         have k4 : w9.cell? ⟨g, 2, none⟩ = some (.int .i64 3) := keep_cell b9 (by assumption)
         have bb : Below w.heap.size w w9 := below_call (by assumption) b9))
  all_goals
    go_wp2
    go_ret
    exact ⟨rfl, bb⟩

/-- which of n things a raw number speaks of -/
def pickI (c n : Int) : Int := (if c < 0 then -(c + 1) else c) % n
theorem pickI_in (c n : Int) (h : 1 ≤ n) : 0 ≤ pickI c n ∧ pickI c n < n := ⟨Int.emod_nonneg _ (by omega), Int.emod_lt_of_pos _ (by omega)⟩

set_option maxHeartbeats 400000 in
theorem pick05 (c : Int) (n : Int) (w : World) (hc : (Lit.int .i64 c).wf = true) (hn : 1 ≤ n) (hn2 : n ≤ 9223372036854775807) :
    Calls Try.prog 51 #[.int .i64 c, .int .i64 n] w fun e w' => e = .returned (.int .i64 (pickI c n)) ∧ w' = w := by
  have hb := bounds_i64 hc
  have hn0 : (n == 0) = false := by simp; omega
  unfold pickI
  by_cases h : c < 0
  · rw [if_pos h]
    go_enter Try.func51, Try.ntmps51
    go_wp2
    go_ret
    refine ⟨ret_int ?_, rfl⟩
    first
      | rfl
      | (rw [← Int.neg_tmod, Int.tmod_eq_emod_of_nonneg (by omega)])
  · rw [if_neg h]
    go_enter Try.func51, Try.ntmps51
    go_wp2
    go_ret
    refine ⟨ret_int ?_, rfl⟩
    first
      | rfl
      | (rw [Int.tmod_eq_emod_of_nonneg (by omega)])

set_option maxRecDepth 100000 in
set_option maxHeartbeats 1600000 in
/-- Fit gives a right geometry -/
theorem fit05 (a b : Int) (w : World) (ha : (Lit.int .i64 a).wf = true) (hb : (Lit.int .i64 b).wf = true) :
    Calls Try.prog 14 #[.agg #[.int .i64 a, .int .i64 b]] w fun e w' => ∃ N S : Int, 3 ≤ N ∧ N ≤ 6 ∧ 1 ≤ S ∧ S ≤ 8 ∧ e = .returned (.agg #[.int .i64 N, .int .i64 S]) ∧ Below w.heap.size w w' := by
  obtain ⟨p, hp⟩ : ∃ p, pickI a 4 = p := ⟨_, rfl⟩
  obtain ⟨q, hq⟩ : ∃ q, pickI b 8 = q := ⟨_, rfl⟩
  have p0 := pickI_in a 4 (by decide)
  have q0 := pickI_in b 8 (by decide)
  rw [hp] at p0
  rw [hq] at q0
  obtain ⟨p0, p1⟩ := p0
  obtain ⟨q0, q1⟩ := q0
  have P1 := Lib.hid (fun w' => pick05 a 4 w' ha (by decide) (by decide))
  have P2 := Lib.hid (fun w' => pick05 b 8 w' hb (by decide) (by decide))
  rw [hp] at P1
  rw [hq] at P2
  clear ha hb hp hq
  go_enter Try.func14, Try.ntmps14
  go_wp2
  have g1 := (Geo.boxed w a b 23).later ((Below.refl _ _).alloc (Nat.le_refl _) (.cells #[.int .i64 0, .int .i64 0] 23))
  have r1 := row_new (w.alloc (.cells #[.int .i64 a, .int .i64 b] 23)) [.int .i64 0, .int .i64 0] 23
  rw [show (w.alloc (.cells #[.int .i64 a, .int .i64 b] 23)).heap.size = w.heap.size + 1 by simp] at r1
  have b1 := ((Below.refl w.heap.size w).alloc (Nat.le_refl _) (.cells #[.int .i64 a, .int .i64 b] 23)).alloc (by simp) (.cells #[.int .i64 0, .int .i64 0] 23)
  obtain ⟨_, c0, c1⟩ := g1
  have d0 := r1.cell (j := 0) rfl
  have d1 := r1.cell (j := 1) rfl
  have f0 := r1.free (j := 0) (by simp)
  have f1 := r1.free (j := 1) (by simp)
  clear r1
  generalize (w.alloc (.cells #[.int .i64 a, .int .i64 b] 23)).alloc (.cells #[.int .i64 0, .int .i64 0] 23) = W at *
  refine wp_region_still_tail 9 (by kernel_rfl) (by kernel_rfl) ?_
  simp only [List.take_succ_cons, List.take_zero, List.drop_succ_cons, List.drop_zero]
  repeat still_step
  still_call (P1.out _)
  repeat still_step
  still_call (P2.out _)
  repeat still_step
  refine wpStill_nil ?_
  go_wp2
  refine bodyPost_ret (v := .agg #[.int .i64 (3 + p), .int .i64 (1 + q)]) (by simp [results, Try.results14, go_sem, d0, d1]) rfl ?_
  exact ⟨3 + p, 1 + q, by omega, by omega, by omega, by omega, rfl, ((b1.setCell (by simp) _).setCell (by simp) _).drew⟩

/-- a block of three numbers -/
def Plc (w : World) (g : Nat) (a b c : Int) : Prop := g < w.heap.size ∧ w.cell? ⟨g, 0, none⟩ = some (.int .i64 a) ∧ w.cell? ⟨g, 1, none⟩ = some (.int .i64 b) ∧ w.cell? ⟨g, 2, none⟩ = some (.int .i64 c)
section
variable {w w' : World} {g B : Nat} {a b c : Int}
theorem Plc.below (h : Plc w g a b c) (hb : Below B w w') (hg : g < B) : Plc w' g a b c :=
  ⟨Nat.lt_of_lt_of_le h.1 hb.size, (hb.cell (p := ⟨g, 0, none⟩) hg).trans h.2.1, (hb.cell (p := ⟨g, 1, none⟩) hg).trans h.2.2.1, (hb.cell (p := ⟨g, 2, none⟩) hg).trans h.2.2.2⟩
theorem Plc.later (h : Plc w g a b c) (hb : Below w.heap.size w w') : Plc w' g a b c := h.below hb h.1
theorem Plc.boxed (w : World) (a b c : Int) (t : TypeId) : Plc (w.alloc (.cells #[.int .i64 a, .int .i64 b, .int .i64 c] t)) w.heap.size a b c := by
  have h := row_new w [.int .i64 a, .int .i64 b, .int .i64 c] t
  exact ⟨h.1, h.cell rfl, h.cell rfl, h.cell rfl⟩
end
end Go.Proofs.Ythckkmoafobmnaa

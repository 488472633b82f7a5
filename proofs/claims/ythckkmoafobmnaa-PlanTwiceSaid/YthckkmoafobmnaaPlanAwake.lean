/- Layer 6: its examples. -/
import Derived.Test.YthckkmoafobmnaaPlanHelp
namespace Go.Proofs.Ythckkmoafobmnaa
open Go.RowKit Go.ChangeShapes Go.WideShapes

theorem plan_fetch_val (N col : Nat) (S out : Int) (w : World) (h : ColsOk N col out) (hs : 1 ≤ S ∧ S ≤ 8) (a b : List Nat) (ha : fetchR N col out = a) (hb : fetchB N col out = b) (N' col' : Int) (hN : (N : Int) = N') (hc : (col : Int) = col') :
    Calls Try.prog 17 #[.agg #[.int .i64 N', .int .i64 S], .int .i64 col', .int .i64 out] w fun e w' => Below w.heap.size w w' ∧ TwoLists w.heap.size e w' a b := by
  subst ha hb hN hc
  exact plan_fetch N col S out w h hs
theorem plan_update_val (N col : Nat) (S out : Int) (w : World) (h : ColsOk N col out) (hs : 1 ≤ S ∧ S ≤ 8) (a b : List Nat) (ha : updR N col out = a) (hb : updW N col out = b) (N' col' : Int) (hN : (N : Int) = N') (hc : (col : Int) = col') :
    Calls Try.prog 21 #[.agg #[.int .i64 N', .int .i64 S], .int .i64 col', .int .i64 out] w fun e w' => Below w.heap.size w w' ∧ TwoLists w.heap.size e w' a b := by
  subst ha hb hN hc
  exact plan_update N col S out w h hs
def SplitAs (e : Ending) (w' : World) (l : List (Nat × Nat × Nat)) : Prop :=
  ∃ A1 c1, e = .returned (.tuple #[.slice A1 l.length c1, .int .i64 0]) ∧ Reads w' w'.heap.size A1 (3 * l.length) (pieceCells l)
theorem plan_split_val (N S at_ count : Nat) (w : World) (h : 3 ≤ N ∧ N ≤ 6 ∧ 1 ≤ S ∧ S ≤ 8) (hc : 1 ≤ count ∧ count ≤ 4 ∧ at_ + count ≤ S * (N - 1)) (l : List (Nat × Nat × Nat)) (hl : pieces 4 (N - 1) at_ count = l) (N' S' a' c' : Int) (h1 : (N : Int) = N') (h2 : (S : Int) = S') (h3 : (at_ : Int) = a') (h4 : (count : Int) = c') :
    Calls Try.prog 25 #[.agg #[.int .i64 N', .int .i64 S'], .int .i64 a', .int .i64 c'] w fun e w' => Below w.heap.size w w' ∧ SplitAs e w' l := by
  subst hl h1 h2 h3 h4
  exact plan_split N S at_ count w h hc

set_option maxRecDepth 100000 in
set_option maxHeartbeats 1600000 in
theorem awake06 (w : World) : Calls Try.prog 13 #[] w fun e w' => e = .returned (.bool true) ∧ Below w.heap.size w w' := by
  have C1 := Lib.hid (fun w' => plan_split_val 4 3 2 3 w' (by decide) (by decide) [(0, 2, 1), (1, 0, 2)] (by decide) 4 3 2 3 rfl rfl rfl rfl)
  have C2 := Lib.hid (fun w' => plan_fetch_val 4 1 3 (-1) w' (by unfold ColsOk; decide) (by decide) [1] [2] (by decide) (by decide) 4 1 rfl rfl)
  have C3 := Lib.hid (fun w' => plan_update_val 4 1 3 1 w' (by unfold ColsOk; decide) (by decide) [0, 2] [3] (by decide) (by decide) 4 1 rfl rfl)
  have C4 := Lib.hid (fun w' => plan_update_val 4 1 3 3 w' (by unfold ColsOk; decide) (by decide) [] [1] (by decide) (by decide) 4 1 rfl rfl)
  go_enter Try.func13, Try.ntmps13
  go_wp2_with fail
  refine (C1.out _).mono ?_
  rintro e w1 ⟨b1, A1, c1, rfl, r1⟩
  have g1 := (Geo.boxed w 4 3 23).later b1
  replace b1 := below_boxed b1
  have G1 := Lib.hid g1
  have R1 := Lib.hid r1
  clear r1
  obtain ⟨_, k0, k1⟩ := g1
  go_wp2_with fail
  clear k0 k1
  refine (C2.out _).mono ?_
  rintro e w2 ⟨b2, A2, c2, A3, c3, rfl, r2, r3, -, -⟩
  have g2 := G1.out.later b2
  have R1' := Lib.hid ((R1.out.below b2).more b2.size)
  replace b2 := below_call b1 b2
  have G2 := Lib.hid g2
  have R2 := Lib.hid r2
  have R3 := Lib.hid r3
  clear r2 r3 b1 G1 R1 C1 C2
  obtain ⟨_, k0, k1⟩ := g2
  go_wp2_with fail
  clear k0 k1
  refine (C3.out _).mono ?_
  rintro e w3 ⟨b3, A4, c4, A5, c5, rfl, r4, r5, -, -⟩
  have g3 := G2.out.later b3
  have R1 := Lib.hid ((R1'.out.below b3).more b3.size)
  have R2' := Lib.hid ((R2.out.below b3).more b3.size)
  have R3' := Lib.hid ((R3.out.below b3).more b3.size)
  replace b3 := below_call b2 b3
  have G3 := Lib.hid g3
  have R4 := Lib.hid r4
  have R5 := Lib.hid r5
  clear r4 r5 b2 G2 R1' R2 R3 C3
  obtain ⟨_, k0, k1⟩ := g3
  go_wp2_with fail
  clear k0 k1
  refine (C4.out _).mono ?_
  rintro e w4 ⟨b4, A6, c6, A7, c7, rfl, r6, r7, -, -⟩
  have R1' := (R1.out.below b4).more b4.size
  have R2 := Lib.hid ((R2'.out.below b4).more b4.size)
  have R3 := Lib.hid ((R3'.out.below b4).more b4.size)
  have R4' := Lib.hid ((R4.out.below b4).more b4.size)
  have R5' := Lib.hid ((R5.out.below b4).more b4.size)
  have R7 := Lib.hid r7
  replace b4 := below_call b3 b4
  clear r6 r7 b3 G3 R1 R2' R3' R4 R5 C4
  obtain ⟨b, o, rfl, hb, hcell⟩ := R1'.2 (by decide)
  have p0 : w4.cell? ⟨b, o, none⟩ = some (.int .i64 0) := hcell 0 _ rfl
  have p1 : w4.cell? ⟨b, o + 1, none⟩ = some (.int .i64 2) := hcell 1 _ rfl
  have p2 : w4.cell? ⟨b, o + 2, none⟩ = some (.int .i64 1) := hcell 2 _ rfl
  have p3 : w4.cell? ⟨b, o + 3, none⟩ = some (.int .i64 1) := hcell 3 _ rfl
  have p4 : w4.cell? ⟨b, o + 4, none⟩ = some (.int .i64 0) := hcell 4 _ rfl
  have p5 : w4.cell? ⟨b, o + 5, none⟩ = some (.int .i64 2) := hcell 5 _ rfl
  clear hcell R1'
  have B4 := Lib.hid b4
  clear b4
  have z4 := Lib.hid (Below.refl w4.heap.size w4)
  go_wp2_with fail
  clear p0 p1 p2 p3 p4 p5
  refine (ints06 A2 _ 1 c2 1 1 [1] _ (((R2.out.below z4.out).more z4.out.size).below ((Below.refl _ _).alloc (Nat.le_refl _) _) |>.more (by simp)) (show Reads _ _ _ 1 ([1].map natV) from (reads_lit _ [.int .i64 1] _ 1 rfl).more (by simp)) (by omega)).mono ?_
  rintro e w5 ⟨rfl, d5⟩
  have z5 := Lib.hid (z4.out.trans (((Below.refl _ _).alloc (Nat.le_refl _) _).trans (d5.mono (by simp)) |>.mono z4.out.size))
  have B5 := Lib.hid (B4.out.trans (((Below.refl _ _).alloc (Nat.le_refl _) _).trans (d5.mono (by simp)) |>.mono B4.out.size))
  clear d5
  go_wp2_with fail
  refine (ints06 A3 _ 1 c3 1 1 [2] _ (((R3.out.below z5.out).more z5.out.size).below ((Below.refl _ _).alloc (Nat.le_refl _) _) |>.more (by simp)) (show Reads _ _ _ 1 ([2].map natV) from (reads_lit _ [.int .i64 2] _ 1 rfl).more (by simp)) (by omega)).mono ?_
  rintro e w6 ⟨rfl, d6⟩
  have z6 := Lib.hid (z5.out.trans (((Below.refl _ _).alloc (Nat.le_refl _) _).trans (d6.mono (by simp)) |>.mono z5.out.size))
  have B6 := Lib.hid (B5.out.trans (((Below.refl _ _).alloc (Nat.le_refl _) _).trans (d6.mono (by simp)) |>.mono B5.out.size))
  clear d6
  go_wp2_with fail
  refine (ints06 A4 _ 2 c4 2 2 [0, 2] _ (((R4'.out.below z6.out).more z6.out.size).below ((Below.refl _ _).alloc (Nat.le_refl _) _) |>.more (by simp)) (show Reads _ _ _ 2 ([0, 2].map natV) from (reads_lit _ [.int .i64 0, .int .i64 2] _ 2 rfl).more (by simp)) (by omega)).mono ?_
  rintro e w7 ⟨rfl, d7⟩
  have z7 := Lib.hid (z6.out.trans (((Below.refl _ _).alloc (Nat.le_refl _) _).trans (d7.mono (by simp)) |>.mono z6.out.size))
  have B7 := Lib.hid (B6.out.trans (((Below.refl _ _).alloc (Nat.le_refl _) _).trans (d7.mono (by simp)) |>.mono B6.out.size))
  clear d7
  go_wp2_with fail
  refine (ints06 A5 _ 1 c5 1 1 [3] _ (((R5'.out.below z7.out).more z7.out.size).below ((Below.refl _ _).alloc (Nat.le_refl _) _) |>.more (by simp)) (show Reads _ _ _ 1 ([3].map natV) from (reads_lit _ [.int .i64 3] _ 1 rfl).more (by simp)) (by omega)).mono ?_
  rintro e w8 ⟨rfl, d8⟩
  have z8 := Lib.hid (z7.out.trans (((Below.refl _ _).alloc (Nat.le_refl _) _).trans (d8.mono (by simp)) |>.mono z7.out.size))
  have B8 := Lib.hid (B7.out.trans (((Below.refl _ _).alloc (Nat.le_refl _) _).trans (d8.mono (by simp)) |>.mono B7.out.size))
  clear d8
  go_wp2_with fail
  refine (ints06 A7 _ 1 c7 1 1 [1] _ (((R7.out.below z8.out).more z8.out.size).below ((Below.refl _ _).alloc (Nat.le_refl _) _) |>.more (by simp)) (show Reads _ _ _ 1 ([1].map natV) from (reads_lit _ [.int .i64 1] _ 1 rfl).more (by simp)) (by omega)).mono ?_
  rintro e w9 ⟨rfl, d9⟩
  have z9 := Lib.hid (z8.out.trans (((Below.refl _ _).alloc (Nat.le_refl _) _).trans (d9.mono (by simp)) |>.mono z8.out.size))
  have B9 := Lib.hid (B8.out.trans (((Below.refl _ _).alloc (Nat.le_refl _) _).trans (d9.mono (by simp)) |>.mono B8.out.size))
  clear d9
  go_wp2
  go_ret
  exact ⟨rfl, B9.out⟩
end Go.Proofs.Ythckkmoafobmnaa

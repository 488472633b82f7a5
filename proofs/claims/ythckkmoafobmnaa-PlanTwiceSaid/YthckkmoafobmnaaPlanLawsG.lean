/- The statements of layer 6, walked: PlanTwice. -/
import Derived.Test.YthckkmoafobmnaaPlanTwMath
namespace Go.Proofs.Ythckkmoafobmnaa
open Go.RowKit Go.ChangeShapes Go.WideShapes

set_option maxRecDepth 100000 in
set_option maxHeartbeats 12800000 in
/-- PlanTwice -/
theorem planTwice_any (ra rb : Int) (A0 : Option Addr) (n0 k0' : Nat) (raw : List ByteArray) (a0 b0 : Int) (one two : ByteArray) (w : World) (hra : (Lit.int .i64 ra).wf = true) (hrb : (Lit.int .i64 rb).wf = true) (hn0 : n0 ≤ 8796093022208) (hraw : Reads w w.heap.size A0 n0 (raw.map .string)) (hrs : ∀ s ∈ raw, s.size ≤ 140737488351232) (ha : (Lit.int .i64 a0).wf = true) (hb : (Lit.int .i64 b0).wf = true) (hone : one.size ≤ 140737488351232) (htwo : two.size ≤ 140737488351232) :
    Holds Try.prog 7 #[.agg #[.int .i64 ra, .int .i64 rb], .slice A0 n0 k0', .int .i64 a0, .int .i64 b0, .string one, .string two] w := by
  unfold Holds
  have HRAW := Lib.hid hraw
  have HRS := Lib.hid hrs
  clear hraw hrs
  go_enter Try.func7, Try.ntmps7
  go_wp2_with fail
  refine (awake06 _).mono ?_
  rintro e w1 ⟨rfl, b1⟩
  have g1 := (Geo.boxed w ra rb 23).later b1
  replace b1 := below_boxed b1
  obtain ⟨_, k0, k1⟩ := g1
  go_wp2_with fail
  clear k0 k1
  refine (fit05 ra rb _ hra hrb).mono ?_
  rintro e w2 ⟨N, S, n3, n6, s1, s8, rfl, b2⟩
  replace b2 := below_call b1 b2
  have g3 := Geo.boxed w2 N S 23
  have b3 := b2.alloc b2.size (.cells #[.int .i64 N, .int .i64 S] 23)
  obtain ⟨M, rfl⟩ : ∃ M : Nat, N = M := ⟨N.toNat, by omega⟩
  have P1 := Lib.hid (fun w' => pick06 a0 ((M : Int) - 1) w' ha (by omega) (by omega))
  have P2 := Lib.hid (fun w' => pick06 b0 ((M : Int) - 1) w' hb (by omega) (by omega))
  have i1 := pickI_in a0 ((M : Int) - 1) (by omega)
  have i2 := pickI_in b0 ((M : Int) - 1) (by omega)
  obtain ⟨a, haa⟩ : ∃ a : Nat, pickI a0 ((M : Int) - 1) = a := ⟨(pickI a0 ((M : Int) - 1)).toNat, by omega⟩
  obtain ⟨b, hbb⟩ : ∃ b : Nat, pickI b0 ((M : Int) - 1) = b := ⟨(pickI b0 ((M : Int) - 1)).toNat, by omega⟩
  rw [haa] at P1 i1
  rw [hbb] at P2 i2
  have ha1 : (a : Int) < M - 1 := i1.2
  have hb1 : (b : Int) < M - 1 := i2.2
  have HM3 : 3 ≤ M := by omega
  have HM6 : M ≤ 6 := by omega
  have G3 := Lib.hid g3
  have B3 := Lib.hid b3
  clear i1 i2 haa hbb b1 b2 b3
  obtain ⟨_, k0, k1⟩ := g3
  go_wp2_with fail
  refine (P1.out _).mono ?_
  rintro e w3 ⟨rfl, rfl⟩
  go_wp2_with fail
  refine (P2.out _).mono ?_
  rintro e w3 ⟨rfl, rfl⟩
  generalize w2.alloc (.cells #[.int .i64 (M : Int), .int .i64 S] 23) = W3 at *
  generalize w2.heap.size = g at *
  go_wp2_with fail
  clear k0 k1 P1 P2
  refine (texts_some _ 2 2 [one, two] _ _ 2 16 _ rfl rfl (by omega) ((reads_lit _ [.string one, .string two] _ 2 rfl).more (by simp)) (by intro s hs; simp at hs; rcases hs with rfl | rfl <;> assumption) (by omega) (by omega)).mono ?_
  rintro e w4 ⟨Ad, cd, ld, rfl, hl1, hl2, o4, b4⟩
  obtain ⟨d0, d1, rfl⟩ : ∃ d0 d1, ld = [d0, d1] := by
    match ld, hl1 with
    | [x, y], _ => exact ⟨x, y, rfl⟩
  have b4' : Below W3.heap.size W3 w4 := ((Below.refl _ _).alloc (Nat.le_refl _) _).trans (b4.mono (by simp))
  have G4 := Lib.hid (G3.out.later b4')
  have B4 := Lib.hid (below_call B3.out b4')
  obtain ⟨gd, od, rfl, hgd, hcd⟩ := o4.reads.2 (by omega)
  have D0 : Hid (w4.cell? ⟨gd, od, none⟩ = some (.string d0)) := hcd 0 _ rfl
  have D1 : Hid (w4.cell? ⟨gd, od + 1, none⟩ = some (.string d1)) := hcd 1 _ rfl
  have Z0 : Hid (d0.size = 16) := hl2 d0 (by simp)
  have Z1 : Hid (d1.size = 16) := hl2 d1 (by simp)
  clear hl1 hl2 o4 b4 b4' G3 B3 hcd
  obtain ⟨_, k0, k1⟩ := G4.out
  go_wp2_with fail
  clear k0 k1
  refine (stripe06 M S A0 n0 k0' raw _ HM3 HM6 hn0 ((HRAW.out.below B4.out).more B4.out.size) HRS.out).mono ?_
  rintro e w5 ⟨AL, cl, L, rfl, ol, hL1, hL2, hL3, b5⟩
  have G5 := Lib.hid (G4.out.later b5)
  have B5 := Lib.hid (below_call B4.out b5)
  have D05 := Lib.hid (keep_cell b5 D0.out)
  have D15 := Lib.hid (keep_cell b5 D1.out)
  have RL := Lib.hid ol.reads
  have HL1 := Lib.hid hL1
  have HL2 := Lib.hid hL2
  clear b5 G4 B4 D0 D1 ol hL1 hL2 hL3 HRAW HRS
  obtain ⟨LA, hLA⟩ : ∃ LA, wroteL M L a d0 = LA := ⟨_, rfl⟩
  obtain ⟨LB, hLB⟩ : ∃ LB, wroteL M L b d1 = LB := ⟨_, rfl⟩
  obtain ⟨LX, hLX⟩ : ∃ LX, wroteL M LA b d1 = LX := ⟨_, rfl⟩
  obtain ⟨LY, hLY⟩ : ∃ LY, wroteL M LB a d0 = LY := ⟨_, rfl⟩
  have zA := wroteL_size (M := M) (col := a) HL2.out Z0.out (by rw [HL1.out]; omega) (by rw [HL1.out]; omega)
  have zB := wroteL_size (M := M) (col := b) HL2.out Z1.out (by rw [HL1.out]; omega) (by rw [HL1.out]; omega)
  have nA : (wroteL M L a d0).length = M := by rw [wroteL_length, HL1.out]
  have nB : (wroteL M L b d1).length = M := by rw [wroteL_length, HL1.out]
  rw [hLA] at zA nA
  rw [hLB] at zB nB
  have C1 := Lib.hid (fun w' (hr : Reads w' w'.heap.size AL M (L.map .string)) (hg : Geo w' g (M : Int) S) => write06 M a S AL cl g L d0 w' HM3 HM6 (by omega) ⟨s1, s8⟩ hg hr HL2.out Z0.out)
  have C2 := Lib.hid (fun w' (hr : Reads w' w'.heap.size AL M (L.map .string)) (hg : Geo w' g (M : Int) S) => write06 M b S AL cl g L d1 w' HM3 HM6 (by omega) ⟨s1, s8⟩ hg hr HL2.out Z1.out)
  have C3 := Lib.hid (fun w' g6 c6 (hr : Row w' g6 (LA.map .string)) (hg : Geo w' g (M : Int) S) => write06 M b S (some ⟨g6, 0, none⟩) c6 g LA d1 w' HM3 HM6 (by omega) ⟨s1, s8⟩ hg (hr.reads (by rw [List.length_map, nA])) zA Z1.out)
  have C4 := Lib.hid (fun w' g6 c6 (hr : Row w' g6 (LB.map .string)) (hg : Geo w' g (M : Int) S) => write06 M a S (some ⟨g6, 0, none⟩) c6 g LB d0 w' HM3 HM6 (by omega) ⟨s1, s8⟩ hg (hr.reads (by rw [List.length_map, nB])) zB Z0.out)
  rw [hLA] at C1
  rw [hLB] at C2
  rw [hLX] at C3
  rw [hLY] at C4
  have HLA := Lib.hid hLA
  have HLB := Lib.hid hLB
  have HLX := Lib.hid hLX
  have HLY := Lib.hid hLY
  clear hLA hLB hLX hLY zA zB nA nB
  have d05 := D05.out
  have d15 := D15.out
  have CA := Lib.hid (C1.out w5.drew RL.out G5.out)
  go_wp2_with fail
  have b10 := B5.out.drew
  go_region_held3 (fun w' => w'.cell? ⟨gd, od, none⟩ = some (.string d0) ∧ w'.cell? ⟨gd, od + 1, none⟩ = some (.string d1))
    (first
      | exact ⟨j0, j1⟩
      | exact ⟨i0, i1⟩
      | exact ⟨d05, d15⟩)
    (first
      | ((go_at_call 27; with_reducible refine CA.out.mono ?_); rintro e w6 ⟨g6, c6, rfl, r6, b6⟩
         have i0 : w6.cell? ⟨gd, od, none⟩ = some (.string d0) := keep_cell b6 (by assumption)
         have i1 : w6.cell? ⟨gd, od + 1, none⟩ = some (.string d1) := keep_cell b6 (by assumption)
         have b11 := below_call b10 b6
         have z6 : Below w5.heap.size w5 w6 := (Below.refl _ _).drew.trans b6
         have G6 := Lib.hid (G5.out.later z6))
      | ((go_at_call 27; with_reducible refine (C3.out _ _ _ r6 G6.out).mono ?_); rintro e w7 ⟨g7, c7, rfl, r7, b7⟩
         have j0 : w7.cell? ⟨gd, od, none⟩ = some (.string d0) := keep_cell b7 (by assumption)
         have j1 : w7.cell? ⟨gd, od + 1, none⟩ = some (.string d1) := keep_cell b7 (by assumption)
         have b12 := below_call b11 b7
         have z7 := z6.trans (b7.mono z6.size)))
  have RLx := Lib.hid ((RL.out.below z7).more z7.size)
  have G7 := Lib.hid (G5.out.later z7)
  have R7 := Lib.hid r7
  have B7 := Lib.hid b12
  have CB := Lib.hid (C2.out w7.drew RLx.out G7.out)
  clear d05 d15 i0 i1 r6 b6 b10 b11 b12 b7 z6 z7 r7 CA G5 G6 RL D05 D15 B5
  go_wp2_with fail
  have b20 := B7.out.drew
  go_region_held3 (fun w' => w'.cell? ⟨gd, od, none⟩ = some (.string d0) ∧ w'.cell? ⟨gd, od + 1, none⟩ = some (.string d1))
    (first
      | exact ⟨m0, m1⟩
      | exact ⟨l0, l1⟩
      | exact ⟨j0, j1⟩)
    (first
      | ((go_at_call 27; with_reducible refine CB.out.mono ?_); rintro e w8 ⟨g8, c8, rfl, r8, b8⟩
         have l0 : w8.cell? ⟨gd, od, none⟩ = some (.string d0) := keep_cell b8 (by assumption)
         have l1 : w8.cell? ⟨gd, od + 1, none⟩ = some (.string d1) := keep_cell b8 (by assumption)
         have b21 := below_call b20 b8
         have z8 : Below w7.heap.size w7 w8 := (Below.refl _ _).drew.trans b8
         have G8 := Lib.hid (G7.out.later z8))
      | ((go_at_call 27; with_reducible refine (C4.out _ _ _ r8 G8.out).mono ?_); rintro e w9 ⟨g9, c9, rfl, r9, b9⟩
         have m0 : w9.cell? ⟨gd, od, none⟩ = some (.string d0) := keep_cell b9 (by assumption)
         have m1 : w9.cell? ⟨gd, od + 1, none⟩ = some (.string d1) := keep_cell b9 (by assumption)
         have b22 := below_call b21 b9
         have z9 := z8.trans (b9.mono z8.size)))
  have RL9 := Lib.hid ((RLx.out.below z9).more z9.size)
  have G9 := Lib.hid (G7.out.later z9)
  have R79 := Lib.hid (R7.out.below z9 R7.out.lt)
  have R9 := Lib.hid r9
  have B9 := Lib.hid b22
  have D09 := Lib.hid m0
  have D19 := Lib.hid m1
  clear j0 j1 l0 l1 r8 b8 b20 b21 b22 b9 z8 z9 r9 CB G7 G8 RLx B7 R7
  go_wp2_with fail
  clear m0 m1
  have m0 := D09.out
  have m1 := D19.out
  refine (C2.out _ RL9.out G9.out).mono ?_
  rintro e w10 ⟨g10, c10, rfl, r10, b10⟩
  have G10 := Lib.hid (G9.out.later b10)
  have R7' := Lib.hid (R79.out.below b10 R79.out.lt)
  have R9' := Lib.hid (R9.out.below b10 R9.out.lt)
  have R10 := Lib.hid r10
  have B10 := Lib.hid (below_call B9.out b10)
  have n0 := keep_cell b10 m0
  have n1 := keep_cell b10 m1
  have nX : LX.length = M := by rw [← HLX.out, wroteL_length, ← HLA.out, wroteL_length, HL1.out]
  have nY : LY.length = M := by rw [← HLY.out, wroteL_length, ← HLB.out, wroteL_length, HL1.out]
  have nB : LB.length = M := by rw [← HLB.out, wroteL_length, HL1.out]
  have NX := Lib.hid nX
  have NY := Lib.hid nY
  have NB := Lib.hid nB
  clear r10 b10 m0 m1 nX nY nB RL9 G9 R79 R9 B9 C1 C2 C3 C4 D09 D19
  obtain ⟨_, k0, k1⟩ := G10.out
  have dne : ((M : Int) != (M : Int)) = false := by simp
  have haM : a < M - 1 := by omega
  have hbM : b < M - 1 := by omega
  by_cases hab : a = b
  · have hxz : LX = LB := by
      rw [← HLX.out, ← HLA.out, ← HLB.out, hab]
      exact wrote_same hbM HL1.out HL2.out Z0.out Z1.out
    have d1' : ((a : Int) == (b : Int)) = true := by rw [hab]; simp
    have CT := Lib.hid (fun w' (h : Reads w' w'.heap.size (some ⟨g7, 0, none⟩) M (LX.map .string)) (h2 : Reads w' w'.heap.size (some ⟨g10, 0, none⟩) M (LX.map .string)) => texts06 (some ⟨g7, 0, none⟩) (some ⟨g10, 0, none⟩) M c7 c10 M LX w' h h2 (by omega))
    have HXZ := Lib.hid hxz
    clear hab hxz
    go_wp2_with fail
    refine (CT.out _ (R7'.out.reads (by rw [List.length_map, NX.out])) (by rw [HXZ.out]; exact R10.out.reads (by rw [List.length_map, NB.out]))).mono ?_
    rintro e w11 ⟨rfl, b11⟩
    go_wp2
    go_ret
    exact ⟨rfl, below_call B10.out b11⟩
  · have d1' : ((a : Int) == (b : Int)) = false := by simp; omega
    have hxy : LX = LY := by
      rw [← HLX.out, ← HLA.out, ← HLY.out, ← HLB.out]
      exact wrote_turn hab haM hbM HL1.out HL2.out Z0.out Z1.out
    have hf : LX[a]? = some d0 ∧ LX[b]? = some d1 := by
      rw [← HLX.out, ← HLA.out]
      exact wrote_first hab haM hbM HL1.out
    have c7a := R7'.out.cell (j := a) (u := .string d0) (by rw [List.getElem?_map, hf.1]; rfl)
    have c7b := R7'.out.cell (j := b) (u := .string d1) (by rw [List.getElem?_map, hf.2]; rfl)
    have haM' : (a : Int) < M := by omega
    have hbM' : (b : Int) < M := by omega
    have CT := Lib.hid (fun w' (h : Reads w' w'.heap.size (some ⟨g7, 0, none⟩) M (LX.map .string)) (h2 : Reads w' w'.heap.size (some ⟨g9, 0, none⟩) M (LX.map .string)) => texts06 (some ⟨g7, 0, none⟩) (some ⟨g9, 0, none⟩) M c7 c9 M LX w' h h2 (by omega))
    have HXY := Lib.hid hxy
    clear hab hxy hf
    go_wp2_with fail
    have b30 := B10.out.drew
    have CV := Lib.hid (CT.out w10.drew (show Reads w10 w10.heap.size _ M _ from R7'.out.reads (by rw [List.length_map, NX.out])) (show Reads w10 w10.heap.size _ M _ by rw [HXY.out]; exact R9'.out.reads (by rw [List.length_map, NY.out])))
    go_region_held3 (fun w' => w'.cell? ⟨g7, a, none⟩ = some (.string d0) ∧ w'.cell? ⟨g7, b, none⟩ = some (.string d1) ∧ w'.cell? ⟨gd, od, none⟩ = some (.string d0) ∧ w'.cell? ⟨gd, od + 1, none⟩ = some (.string d1))
      (first
        | exact ⟨e1, e2, e3, e4⟩
        | exact ⟨c7a, c7b, n0, n1⟩)
      (first
        | ((go_at_call 28; with_reducible refine CV.out.mono ?_); rintro e w11 ⟨rfl, b11⟩
           have e1 : w11.cell? ⟨g7, a, none⟩ = some (.string d0) := keep_cell b11 (by assumption)
           have e2 : w11.cell? ⟨g7, b, none⟩ = some (.string d1) := keep_cell b11 (by assumption)
           have e3 : w11.cell? ⟨gd, od, none⟩ = some (.string d0) := keep_cell b11 (by assumption)
           have e4 : w11.cell? ⟨gd, od + 1, none⟩ = some (.string d1) := keep_cell b11 (by assumption)
           have b31 := below_call b30 b11))
    all_goals
      go_wp2
      go_ret
      exact ⟨rfl, b31⟩

end Go.Proofs.Ythckkmoafobmnaa

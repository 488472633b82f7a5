/- The statements of layer 6, walked: PlanWays. -/
import Derived.Test.YthckkmoafobmnaaPlanLawsB
namespace Go.Proofs.Ythckkmoafobmnaa
open Go.RowKit Go.ChangeShapes Go.WideShapes

set_option maxRecDepth 100000 in
set_option maxHeartbeats 6400000 in
/-- PlanWays -/
theorem planWays_any (ra rb : Int) (A0 : Option Addr) (n0 k0' : Nat) (raw : List ByteArray) (c0 o0 t0 : Int) (w : World) (hra : (Lit.int .i64 ra).wf = true) (hrb : (Lit.int .i64 rb).wf = true) (hn0 : n0 ≤ 8796093022208) (hraw : Reads w w.heap.size A0 n0 (raw.map .string)) (hrs : ∀ s ∈ raw, s.size ≤ 140737488351232) (hc : (Lit.int .i64 c0).wf = true) (ho : (Lit.int .i64 o0).wf = true) (ht : (Lit.int .i64 t0).wf = true) :
    Holds Try.prog 8 #[.agg #[.int .i64 ra, .int .i64 rb], .slice A0 n0 k0', .int .i64 c0, .int .i64 o0, .int .i64 t0] w := by
  unfold Holds
  have HRAW := Lib.hid hraw
  have HRS := Lib.hid hrs
  clear hraw hrs
  go_enter Try.func8, Try.ntmps8
  go_wp2_with fail
  refine (awake06 _).mono ?_
  rintro e w1 ⟨rfl, b1⟩
  have g1 := (Geo.boxed w ra rb 23).later b1
  replace b1 := below_boxed b1
  obtain ⟨_, k0, k1⟩ := g1
  go_wp2_with fail
  clear k0 k1
  refine (fit05 ra rb _ hra hrb).mono ?_
  rintro e w2 ⟨N, S, n3, n6, s1, s8, rfl, b2⟩
  replace b2 := below_call b1 b2
  have g3 := Geo.boxed w2 N S 23
  have b3 := b2.alloc b2.size (.cells #[.int .i64 N, .int .i64 S] 23)
  obtain ⟨M', col', hM', hcol', hok2'⟩ := cols_of (c0 := c0) (o0 := t0) n3 n6
  obtain ⟨M, col, rfl, hcol, hok⟩ := cols_of (c0 := c0) (o0 := o0) n3 n6
  obtain rfl : M' = M := by omega
  obtain rfl : col' = col := by omega
  clear hM' hcol'
  have P1 := Lib.hid (fun w' => pick06 c0 ((M' : Int) - 1) w' hc (by omega) (by omega))
  have P2 := Lib.hid (fun w' => pick06 o0 ((M' : Int) + 1) w' ho (by omega) (by omega))
  have P3 := Lib.hid (fun w' => pick06 t0 ((M' : Int) + 1) w' ht (by omega) (by omega))
  obtain ⟨out, hout⟩ : ∃ out, pickI o0 ((M' : Int) + 1) - 1 = out := ⟨_, rfl⟩
  rw [hout] at hok
  rw [show pickI o0 ((M' : Int) + 1) = out + 1 by omega] at P2
  obtain ⟨out2, hout2⟩ : ∃ out, pickI t0 ((M' : Int) + 1) - 1 = out := ⟨_, rfl⟩
  rw [hout2] at hok2'
  rw [show pickI t0 ((M' : Int) + 1) = out2 + 1 by omega] at P3
  rw [hcol] at P1
  have HOK := Lib.hid hok
  have HOK2 := Lib.hid hok2'
  have hout0 : -1 ≤ out := hok.2.2.2.1
  have hout1 : out < M' := hok.2.2.2.2
  have hout20 : -1 ≤ out2 := hok2'.2.2.2.1
  have hout21 : out2 < M' := hok2'.2.2.2.2
  have hcol1 : (col' : Int) < M' - 1 := by have := hok.2.2.1; omega
  clear hcol hout hok hout2 hok2' b1 b2
  have f1 := fetchR_out HOK.out
  have f1' := fetchR_out HOK2.out
  obtain ⟨a, ha⟩ : ∃ a, fetchR M' col' out = a := ⟨_, rfl⟩
  obtain ⟨fb, hfb⟩ : ∃ b, fetchB M' col' out = b := ⟨_, rfl⟩
  obtain ⟨a2, ha2⟩ : ∃ a, fetchR M' col' out2 = a := ⟨_, rfl⟩
  obtain ⟨fb2, hfb2⟩ : ∃ b, fetchB M' col' out2 = b := ⟨_, rfl⟩
  have C1 := Lib.hid (fun w' => plan_fetch_val M' col' S out w' HOK.out ⟨s1, s8⟩ a fb ha hfb M' col' rfl rfl)
  have C2 := Lib.hid (fun w' => plan_fetch_val M' col' S out2 w' HOK2.out ⟨s1, s8⟩ a2 fb2 ha2 hfb2 M' col' rfl rfl)
  have F4 := fetchR_len HOK.out
  have F4' := fetchR_len HOK2.out
  rw [ha] at f1 F4
  rw [ha2] at f1' F4'
  have f4a : a.length < M' := F4.2
  have f4b : a2.length < M' := F4'.2
  have HA := Lib.hid ha
  have HA2 := Lib.hid ha2
  have F1 := Lib.hid f1
  have F1' := Lib.hid f1'
  have G3 := Lib.hid g3
  have B3 := Lib.hid b3
  clear ha hfb f1 ha2 hfb2 f1' b3 F4 F4'
  obtain ⟨_, k0, k1⟩ := g3
  have HM3 : 3 ≤ M' := by omega
  have HM6 : M' ≤ 6 := by omega
  go_wp2_with fail
  clear k0 k1
  refine (stripe06 M' S A0 n0 k0' raw _ HM3 HM6 hn0 ((HRAW.out.below B3.out).more B3.out.size) HRS.out).mono ?_
  rintro e w4 ⟨AL, cl, L, rfl, ol, hL1, hL2, hL3, b4⟩
  have g4 := G3.out.later b4
  have B4 := Lib.hid (below_call B3.out b4)
  have G4 := Lib.hid g4
  have OL := Lib.hid ol
  have HL1 := Lib.hid hL1
  have HL2 := Lib.hid hL2
  have HL3 := Lib.hid hL3
  clear b4 G3 B3 ol hL1 hL2 hL3
  obtain ⟨_, k0, k1⟩ := g4
  go_wp2_with fail
  refine (P1.out _).mono ?_
  rintro e w5 ⟨rfl, rfl⟩
  go_wp2_with fail
  refine (P2.out _).mono ?_
  rintro e w5 ⟨rfl, rfl⟩
  go_wp2_with fail
  refine (P3.out _).mono ?_
  rintro e w5 ⟨rfl, rfl⟩
  go_wp2_with fail
  clear k0 k1 P1 P2 P3
  refine (C1.out _).mono ?_
  rintro e w5 ⟨b5, A1, c1, A2, c2, rfl, r1, r2, -, -⟩
  have g5 := G4.out.later b5
  have OL5 := Lib.hid (OL.out.later b5)
  have B5 := Lib.hid (below_call B4.out b5)
  have G5 := Lib.hid g5
  have R1 := Lib.hid r1
  clear b5 G4 B4 C1 OL r1 r2
  obtain ⟨_, k0, k1⟩ := g5
  go_wp2_with fail
  clear k0 k1
  refine (C2.out _).mono ?_
  rintro e w6 ⟨b6, A3, c3, A4, c4, rfl, r3, r4, -, -⟩
  have g6 := G5.out.later b6
  have OL6 := Lib.hid (OL5.out.later b6)
  have B6 := Lib.hid (below_call B5.out b6)
  have R1' := Lib.hid ((R1.out.below b6).more b6.size)
  have R3 := Lib.hid r3
  clear b6 G5 B5 C2 OL5 R1 r3 r4
  obtain ⟨_, k0, k1⟩ := g6
  have hcM : col' < M' := by omega
  obtain ⟨y, hy⟩ : ∃ y, L[col']? = some y := ⟨L[col']'(by rw [HL1.out]; exact hcM), List.getElem?_eq_getElem _⟩
  have HY := Lib.hid hy
  have hg6 : w2.heap.size < w6.heap.size := by assumption
  generalize w2.heap.size = g at *
  clear hy
  go_wp2_with fail
  have b10 := B6.out.drew
  have CN := Lib.hid (named06 AL A1 M' cl a.length c1 L a w6.drew OL6.out.reads R1'.out (by omega) (by omega) (fun x hx => (F1.out x hx).2))
  have CG := Lib.hid (fun A3 c3 w6' (h : Own w6' w6.drew.heap.size 9 A3 a.length c3 ((namedL L a).map .string)) => plan_got_is M' col' S out A3 a.length c3 L y w6' HOK.out ⟨s1, s8⟩ (by rw [HA.out]; exact h.reads) h.cap HL1.out HL2.out HL3.out HY.out)
  go_region_held3 (fun w' => w'.cell? ⟨g, 0, none⟩ = some (.int .i64 (M' : Int)) ∧ w'.cell? ⟨g, 1, none⟩ = some (.int .i64 S))
    (first
      | exact ⟨j0, j1⟩
      | exact ⟨i0, i1⟩
      | exact ⟨k0, k1⟩)
    (first
      | ((go_at_call 19; with_reducible refine CN.out.mono ?_); rintro e w7 ⟨A5, c5, rfl, o7, b7⟩
         have i0 : w7.cell? ⟨g, 0, none⟩ = some (.int .i64 (M' : Int)) := keep_cell b7 (by assumption)
         have i1 : w7.cell? ⟨g, 1, none⟩ = some (.int .i64 S) := keep_cell b7 (by assumption)
         have b11 := below_call b10 b7
         have z7 : Below w6.heap.size w6 w7 := (Below.refl _ _).drew.trans b7)
      | ((go_at_call 18; with_reducible refine (CG.out _ _ _ o7).mono ?_); rintro e w8 ⟨rfl, b8⟩
         have j0 : w8.cell? ⟨g, 0, none⟩ = some (.int .i64 (M' : Int)) := keep_cell b8 (by assumption)
         have j1 : w8.cell? ⟨g, 1, none⟩ = some (.int .i64 S) := keep_cell b8 (by assumption)
         have b12 := below_call b11 b8
         have z8 := z7.trans (b8.mono z7.size)))
  have R3' := Lib.hid ((R3.out.below z8).more z8.size)
  have OL8 := Lib.hid (OL6.out.later z8)
  have B8 := Lib.hid b12
  clear R1' R3 OL6 CN CG b10 b11 b12 z7 z8 b7 b8 k0 k1 i0 i1 o7 B6 HRAW HRS
  go_wp2_with fail
  have b20 := B8.out.drew
  have CN := Lib.hid (named06 AL A3 M' cl a2.length c3 L a2 w8.drew OL8.out.reads R3'.out (by omega) (by omega) (fun x hx => (F1'.out x hx).2))
  have CG := Lib.hid (fun A3 c3 w6' (h : Own w6' w8.drew.heap.size 9 A3 a2.length c3 ((namedL L a2).map .string)) => plan_got_is M' col' S out2 A3 a2.length c3 L y w6' HOK2.out ⟨s1, s8⟩ (by rw [HA2.out]; exact h.reads) h.cap HL1.out HL2.out HL3.out HY.out)
  go_region_held3 (fun w' => w'.cell? ⟨g, 0, none⟩ = some (.int .i64 (M' : Int)) ∧ w'.cell? ⟨g, 1, none⟩ = some (.int .i64 S))
    (first
      | exact ⟨p0, p1⟩
      | exact ⟨q0, q1⟩
      | exact ⟨j0, j1⟩)
    (first
      | ((go_at_call 19; with_reducible refine CN.out.mono ?_); rintro e w9 ⟨A7, c7, rfl, o9, b9⟩
         have q0 : w9.cell? ⟨g, 0, none⟩ = some (.int .i64 (M' : Int)) := keep_cell b9 (by assumption)
         have q1 : w9.cell? ⟨g, 1, none⟩ = some (.int .i64 S) := keep_cell b9 (by assumption)
         have b21 := below_call b20 b9)
      | ((go_at_call 18; with_reducible refine (CG.out _ _ _ o9).mono ?_); rintro e w10 ⟨rfl, b10⟩
         have p0 : w10.cell? ⟨g, 0, none⟩ = some (.int .i64 (M' : Int)) := keep_cell b10 (by assumption)
         have p1 : w10.cell? ⟨g, 1, none⟩ = some (.int .i64 S) := keep_cell b10 (by assumption)
         have b22 := below_call b21 b10))
  go_wp2
  go_ret
  exact ⟨rfl, b22⟩
end Go.Proofs.Ythckkmoafobmnaa

/- The statements of layer 6, walked: PlanSplits. -/
import Derived.Test.YthckkmoafobmnaaPlanPieces
import Derived.Deep.QuietTactic
import Derived.BigQuiet
namespace Go.Proofs.Ythckkmoafobmnaa
open Go.RowKit Go.ChangeShapes Go.WideShapes

set_option maxRecDepth 100000 in
set_option maxHeartbeats 6400000 in
/-- PlanSplits -/
theorem planSplits_any (ra rb a0 c0 : Int) (w : World) (hra : (Lit.int .i64 ra).wf = true) (hrb : (Lit.int .i64 rb).wf = true) (ha : (Lit.int .i64 a0).wf = true) (hc : (Lit.int .i64 c0).wf = true) :
    Holds Try.prog 5 #[.agg #[.int .i64 ra, .int .i64 rb], .int .i64 a0, .int .i64 c0] w := by
  unfold Holds
  go_enter Try.func5, Try.ntmps5
  go_wp2_with fail
  refine (awake06 _).mono ?_
  rintro e w1 ⟨rfl, b1⟩
  have g1 := (Geo.boxed w ra rb 23).later b1
  replace b1 := below_boxed b1
  obtain ⟨_, k0, k1⟩ := g1
  go_wp2_with fail
  clear k0 k1
  refine (fit05 ra rb _ hra hrb).mono ?_
  rintro e w2 ⟨N, S0, n3, n6, s1, s8, rfl, b2⟩
  replace b2 := below_call b1 b2
  obtain ⟨M, rfl⟩ : ∃ M : Nat, N = M := ⟨N.toNat, by omega⟩
  obtain ⟨S, rfl⟩ : ∃ S : Nat, S0 = S := ⟨S0.toNat, by omega⟩
  have g3 := Geo.boxed w2 (M : Int) (S : Int) 23
  have b3 := b2.alloc b2.size (.cells #[.int .i64 (M : Int), .int .i64 (S : Int)] 23)
  obtain ⟨V, hV⟩ : ∃ V : Nat, S * (M - 1) = V := ⟨_, rfl⟩
  have hV2 : 2 ≤ V ∧ V ≤ 40 := by
    have h1 : 1 * 2 ≤ S * (M - 1) := Nat.mul_le_mul (by omega) (by omega)
    have h2 : S * (M - 1) ≤ 8 * 5 := Nat.mul_le_mul (by omega) (by omega)
    omega
  obtain ⟨hv2, hv40⟩ := hV2
  have hbl : blocksI (M : Int) (S : Int) = (V : Int) := by
    rw [blocksI, if_pos ((right_iff _ _).2 ⟨n3, n6, s1, s8⟩), ← hV]
    obtain ⟨m, rfl⟩ : ∃ m, M = m + 1 := ⟨M - 1, by omega⟩
    simp
  have C0 := Lib.hid (fun w' => ref05_blocks_val (M : Int) (S : Int) w' (V : Int) hbl)
  obtain ⟨q, hq⟩ : ∃ q : Nat, (if (V : Int) < 4 then (V : Int) else (4 : Int)) = q ∧ 1 ≤ q ∧ q ≤ 4 ∧ q ≤ V := by
    by_cases h : (V : Int) < 4
    · exact ⟨V, by rw [if_pos h], by omega, by omega, by omega⟩
    · exact ⟨4, by rw [if_neg h]; rfl, by omega, by omega, by omega⟩
  obtain ⟨hq0, hq1, hq4, hqV⟩ := hq
  have P1 := Lib.hid (fun w' => pick06 c0 (q : Int) w' hc (by omega) (by omega))
  have p1 := pickI_in c0 (q : Int) (by omega)
  obtain ⟨r, hcc⟩ : ∃ r : Nat, pickI c0 (q : Int) = r := ⟨(pickI c0 (q : Int)).toNat, by omega⟩
  rw [hcc] at P1
  obtain ⟨c, hcr⟩ : ∃ c : Nat, c = 1 + r := ⟨_, rfl⟩
  have hc1 : 1 ≤ c := by omega
  have hr4 : r ≤ 3 := by omega
  have hrV : r + 1 ≤ V := by omega
  have hrV' : (r : Int) + 1 ≤ V := by omega
  have hc4 : c ≤ 4 := by omega
  have hcV : c ≤ V := by omega
  have P2 := Lib.hid (fun w' => pick06 a0 ((V : Int) - (1 + (r : Int)) + 1) w' ha (by omega) (by omega))
  have p2 := pickI_in a0 ((V : Int) - (1 + (r : Int)) + 1) (by omega)
  obtain ⟨a, haa⟩ : ∃ a : Nat, pickI a0 ((V : Int) - (1 + (r : Int)) + 1) = a := ⟨(pickI a0 ((V : Int) - (1 + (r : Int)) + 1)).toNat, by omega⟩
  rw [haa] at P2
  have haV : a + c ≤ V := by omega
  clear p1 p2 hcc haa b1 b2 hbl
  obtain ⟨ps, hps⟩ : ∃ ps, pieces 4 (M - 1) a c = ps := ⟨_, rfl⟩
  have C1 := Lib.hid (fun w' => plan_split_val M S a c w' ⟨by omega, by omega, by omega, by omega⟩ ⟨hc1, hc4, by omega⟩ ps hps M S a (1 + (r : Int)) rfl rfl rfl (by omega))
  have e1 := pieces_sum 4 (M - 1) a c (by omega) hc4
  have e2 := pieces_at 4 (M - 1) a c (by omega) hc4
  have e3 := pieces_next 4 (M - 1) a c (by omega) hc4
  have e4 := pieces_len 4 (M - 1) a c
  rw [hps] at e1 e2 e3 e4
  have E1 := Lib.hid e1
  have E2 := Lib.hid e2
  have E3 := Lib.hid e3
  have HV := Lib.hid hV
  have HCR := Lib.hid hcr
  have G3 := Lib.hid g3
  have B3 := Lib.hid b3
  clear e1 e2 e3 hps hV b3 hcr
  obtain ⟨_, k0, k1⟩ := g3
  go_wp2_with fail
  refine (C0.out _).mono ?_
  rintro e w4 ⟨rfl, b4⟩
  have G4 := Lib.hid (G3.out.later b4)
  have B4 := Lib.hid (below_call B3.out b4)
  clear b4 k0 k1 G3 B3 C0
  go_wp2_with fail
  with_reducible refine (P1.out _).mono ?_
  rintro e w5 ⟨rfl, rfl⟩
  go_wp2_with fail
  with_reducible refine (P2.out _).mono ?_
  rintro e w5 ⟨rfl, rfl⟩
  obtain ⟨gg, k0, k1⟩ := G4.out
  go_wp2_with fail
  clear k0 k1 P1 P2
  with_reducible refine (C1.out _).mono ?_
  rintro e w5 ⟨b5, A1, c1, rfl, r1⟩
  have G5 := Lib.hid (G4.out.later b5)
  have B5 := Lib.hid (below_call B4.out b5)
  have R1 := Lib.hid r1
  clear b5 G4 B4 C1 r1 hq0
  generalize w2.heap.size = g at *
  have hg5 : g < w5.heap.size := G5.out.1
  go_wp2
  go_loopw [12, 13] (fun nx i wr => ∃ (k X : Nat), k ≤ ps.length ∧ i = .int .i64 (k : Int) ∧ nx = .int .i64 (X : Int) ∧ X = a + sumC (ps.take k) ∧ Below w5.heap.size w5 wr) (fun _ i _ => ps.length - (intOf i).toNat)
  case atStart => exact ⟨0, a, Nat.zero_le _, rfl, rfl, rfl, Below.refl _ _⟩
  case round =>
    obtain ⟨k, X, hk, rfl, rfl, hX, hbr⟩ := hrel
    have HX := Lib.hid hX
    clear hX
    by_cases hkn : k < ps.length
    · have dk : decide ((k : Int) < ps.length) = true := by simp; omega
      have kn : (k : Int) < ps.length := by omega
      obtain ⟨⟨st, fi, ct⟩, hp⟩ : ∃ p, ps[k]? = some p := ⟨_, List.getElem?_eq_getElem hkn⟩
      have hp2 := E2.out k _ hp
      simp only at hp2
      obtain ⟨hp1, hp3, hp4, hp5⟩ := hp2
      rw [← HX.out] at hp5
      have hxc : X + ct ≤ a + c := by
        have h1 := sumC_snoc hp
        have h2 := HX.out
        have h3 := sumC_take ps (k + 1)
        rw [E1.out] at h3
        simp only at h1
        omega
      have hX40 : X ≤ 40 := by omega
      have HXC := Lib.hid hxc
      clear hxc
      obtain ⟨b, o, hA, hb, hcell⟩ := R1.out.2 (by omega)
      subst hA
      have hc3 := pieceCells_at ps k _ hp
      have Z0 := Lib.hid (hcell _ _ hc3.1)
      have Z1 := Lib.hid (hcell _ _ hc3.2.1)
      have Z2 := Lib.hid (hcell _ _ hc3.2.2)
      have q0 : wr.cell? ⟨b, o + k * 3, none⟩ = some (.int .i64 (st : Int)) := (hbr.cell (by exact hb)).trans (hcell _ _ hc3.1)
      have q1 : wr.cell? ⟨b, o + k * 3 + 1, none⟩ = some (.int .i64 (fi : Int)) := (hbr.cell (by exact hb)).trans (hcell _ _ hc3.2.1)
      have q2 : wr.cell? ⟨b, o + k * 3 + 2, none⟩ = some (.int .i64 (ct : Int)) := (hbr.cell (by exact hb)).trans (hcell _ _ hc3.2.2)
      have d1 : decide ((ct : Int) < 1) = false := by simp; omega
      have d4 : decide ((4 : Int) < (ct : Int)) = false := by simp; omega
      have d4' : decide (4 < ct) = false := by simp; omega
      have HBR := Lib.hid hbr
      have HP := Lib.hid hp
      have HP5 := Lib.hid hp5
      clear hp hc3 hbr hp5
      have hst : st < S := by
        have h1 := HP5.out
        have h2 := HV.out
        have h3 := haV
        have h4 := HXC.out
        refine Nat.lt_of_not_le fun hge => ?_
        have h5 := Nat.mul_le_mul_right (M - 1) hge
        omega
      have hcase : (k = 0 ∧ decide ((0 : Int) < (k : Int)) = false ∧ decide (0 < k) = false) ∨ (0 < k ∧ decide ((0 : Int) < (k : Int)) = true ∧ decide (0 < k) = true) := by
        rcases Nat.eq_zero_or_pos k with h | h
        · exact Or.inl ⟨h, by simp; omega, by simp; omega⟩
        · exact Or.inr ⟨h, by simp; omega, by simp; omega⟩
      rcases hcase with ⟨hk0, d0, d0'⟩ | ⟨hk0, d0, d0'⟩
      · have HK0 := Lib.hid hk0
        clear hk0
        go_wp2
        go_quiet (fail)
        go_wp2
        clear q0 q1 q2 d0 d0' d1 d4 d4'
        go_loopw [12, 14] (fun nx j wr => ∃ (t Y : Nat), t ≤ ct ∧ j = .int .i64 (t : Int) ∧ nx = .int .i64 (Y : Int) ∧ Y = X + t ∧ Below w5.heap.size w5 wr) (fun _ j _ => ct - (intOf j).toNat)
        case atStart => exact ⟨0, X, Nat.zero_le _, rfl, rfl, rfl, HBR.out.trans ⟨rfl, rfl, rfl, Nat.le_refl _, fun _ _ => rfl⟩⟩
        case round =>
          obtain ⟨t, Y, ht, rfl, rfl, hY, hbl⟩ := hrel
          have HY := Lib.hid hY
          have hY40 : Y ≤ 44 := by omega
          clear hY
          have u0 : wr.cell? ⟨b, o + k * 3, none⟩ = some (.int .i64 (st : Int)) := (hbl.cell (by exact hb)).trans Z0.out
          have u1 : wr.cell? ⟨b, o + k * 3 + 1, none⟩ = some (.int .i64 (fi : Int)) := (hbl.cell (by exact hb)).trans Z1.out
          have u2 : wr.cell? ⟨b, o + k * 3 + 2, none⟩ = some (.int .i64 (ct : Int)) := (hbl.cell (by exact hb)).trans Z2.out
          by_cases htc : t < ct
          · have dt : decide ((t : Int) < (ct : Int)) = true := by simp; omega
            have dt' : decide (t < ct) = true := by simp; omega
            have CB := Lib.hid (fun w' => ref_block_is M S st (fi + t) Y ((fi : Int) + (t : Int)) (by omega) w' (by omega) (by omega) (by omega) (by omega) hst (by omega) (by have h1 := HP5.out; have h2 := HY.out; omega))
            have hge := G5.out.below hbl hg5
            obtain ⟨hgl, k0, k1⟩ := hge
            have w1' : IntKind.i64.wrap ((fi : Int) + (t : Int)) = (fi : Int) + (t : Int) := by rw [IntKind.wrap_i64]; omega
            have bl := hbl
            go_wp2
            have b10 := bl.drew
            go_region_held3 (fun w' => w'.cell? ⟨g, 0, none⟩ = some (.int .i64 (M : Int)) ∧ w'.cell? ⟨g, 1, none⟩ = some (.int .i64 (S : Int)) ∧ w'.cell? ⟨b, o + k * 3, none⟩ = some (.int .i64 (st : Int)) ∧ w'.cell? ⟨b, o + k * 3 + 1, none⟩ = some (.int .i64 (fi : Int)))
              (first
                | exact ⟨i0, i1, i2, i3⟩
                | exact ⟨k0, k1, u0, u1⟩)
              (first
                | ((go_at_call 26; with_reducible refine (CB.out _).mono ?_); rintro e wm ⟨rfl, bm⟩
                   have i0 : wm.cell? ⟨g, 0, none⟩ = some (.int .i64 (M : Int)) := keep_cell bm (by assumption)
                   have i1 : wm.cell? ⟨g, 1, none⟩ = some (.int .i64 (S : Int)) := keep_cell bm (by assumption)
                   have i2 : wm.cell? ⟨b, o + k * 3, none⟩ = some (.int .i64 (st : Int)) := keep_cell bm (by assumption)
                   have i3 : wm.cell? ⟨b, o + k * 3 + 1, none⟩ = some (.int .i64 (fi : Int)) := keep_cell bm (by assumption)
                   have bb := b10.trans (bm.mono b10.size)))
            go_wp2
            go_roundw
            case rel => exact ⟨t + 1, Y + 1, by omega, by go_num, by go_num, by rw [HY.out]; omega, bb⟩
            case measure => simp [intOf]; omega
          · obtain rfl : t = ct := by omega
            have dt : decide ((t : Int) < (t : Int)) = false := by simp
            go_wp2
            go_roundw
            case rel => exact ⟨k + 1, Y, by omega, by go_num, rfl, by have h1 := HY.out; have h2 := HX.out; have h3 := sumC_snoc HP.out; simp only at h3; omega, hbl⟩
            case measure => simp [intOf]; omega
      · obtain ⟨⟨pst, pfi, pct⟩, hpp⟩ : ∃ p, ps[k - 1]? = some p := ⟨_, List.getElem?_eq_getElem (by omega)⟩
        have hnx := E3.out (k - 1) (pst, pfi, pct) (st, fi, ct) hpp (by rw [show k - 1 + 1 = k by omega]; exact HP.out)
        simp only at hnx
        have hpc := pieceCells_at ps (k - 1) _ hpp
        have hpr := hcell _ _ hpc.1
        have q3 : wr.cell? ⟨b, o + (k - 1) * 3, none⟩ = some (.int .i64 (pst : Int)) := (HBR.out.cell (by exact hb)).trans hpr
        have kp0 : (0 : Int) ≤ (k : Int) - 1 := by omega
        have kp1 : (k : Int) - 1 < ps.length := by omega
        have kp2 : ((k : Int) - 1).toNat = k - 1 := by omega
        have kp3 : IntKind.i64.wrap ((k : Int) - 1) = (k : Int) - 1 := by rw [IntKind.wrap_i64]; omega
        have nst : ((st : Int) != (pst : Int) + 1) = false := by rw [hnx]; simp
        have pst0 : IntKind.i64.wrap ((pst : Int) + 1) = (pst : Int) + 1 := by rw [IntKind.wrap_i64]; omega
        have HNX := Lib.hid hnx
        clear hpp hnx hpc hpr
        go_wp2
        go_quiet (fail)
        clear q3 kp0 kp1 kp2 kp3 nst pst0
        go_wp2
        clear q0 q1 q2 d0 d0' d1 d4 d4'
        go_loopw [12, 14] (fun nx j wr => ∃ (t Y : Nat), t ≤ ct ∧ j = .int .i64 (t : Int) ∧ nx = .int .i64 (Y : Int) ∧ Y = X + t ∧ Below w5.heap.size w5 wr) (fun _ j _ => ct - (intOf j).toNat)
        case atStart => exact ⟨0, X, Nat.zero_le _, rfl, rfl, rfl, HBR.out.trans ⟨rfl, rfl, rfl, Nat.le_refl _, fun _ _ => rfl⟩⟩
        case round =>
          obtain ⟨t, Y, ht, rfl, rfl, hY, hbl⟩ := hrel
          have HY := Lib.hid hY
          have hY40 : Y ≤ 44 := by omega
          clear hY
          have u0 : wr.cell? ⟨b, o + k * 3, none⟩ = some (.int .i64 (st : Int)) := (hbl.cell (by exact hb)).trans Z0.out
          have u1 : wr.cell? ⟨b, o + k * 3 + 1, none⟩ = some (.int .i64 (fi : Int)) := (hbl.cell (by exact hb)).trans Z1.out
          have u2 : wr.cell? ⟨b, o + k * 3 + 2, none⟩ = some (.int .i64 (ct : Int)) := (hbl.cell (by exact hb)).trans Z2.out
          by_cases htc : t < ct
          · have dt : decide ((t : Int) < (ct : Int)) = true := by simp; omega
            have dt' : decide (t < ct) = true := by simp; omega
            have CB := Lib.hid (fun w' => ref_block_is M S st (fi + t) Y ((fi : Int) + (t : Int)) (by omega) w' (by omega) (by omega) (by omega) (by omega) hst (by omega) (by have h1 := HP5.out; have h2 := HY.out; omega))
            have hge := G5.out.below hbl hg5
            obtain ⟨hgl, k0, k1⟩ := hge
            have w1' : IntKind.i64.wrap ((fi : Int) + (t : Int)) = (fi : Int) + (t : Int) := by rw [IntKind.wrap_i64]; omega
            have bl := hbl
            go_wp2
            have b10 := bl.drew
            go_region_held3 (fun w' => w'.cell? ⟨g, 0, none⟩ = some (.int .i64 (M : Int)) ∧ w'.cell? ⟨g, 1, none⟩ = some (.int .i64 (S : Int)) ∧ w'.cell? ⟨b, o + k * 3, none⟩ = some (.int .i64 (st : Int)) ∧ w'.cell? ⟨b, o + k * 3 + 1, none⟩ = some (.int .i64 (fi : Int)))
              (first
                | exact ⟨i0, i1, i2, i3⟩
                | exact ⟨k0, k1, u0, u1⟩)
              (first
                | ((go_at_call 26; with_reducible refine (CB.out _).mono ?_); rintro e wm ⟨rfl, bm⟩
                   have i0 : wm.cell? ⟨g, 0, none⟩ = some (.int .i64 (M : Int)) := keep_cell bm (by assumption)
                   have i1 : wm.cell? ⟨g, 1, none⟩ = some (.int .i64 (S : Int)) := keep_cell bm (by assumption)
                   have i2 : wm.cell? ⟨b, o + k * 3, none⟩ = some (.int .i64 (st : Int)) := keep_cell bm (by assumption)
                   have i3 : wm.cell? ⟨b, o + k * 3 + 1, none⟩ = some (.int .i64 (fi : Int)) := keep_cell bm (by assumption)
                   have bb := b10.trans (bm.mono b10.size)))
            go_wp2
            go_roundw
            case rel => exact ⟨t + 1, Y + 1, by omega, by go_num, by go_num, by rw [HY.out]; omega, bb⟩
            case measure => simp [intOf]; omega
          · obtain rfl : t = ct := by omega
            have dt : decide ((t : Int) < (t : Int)) = false := by simp
            go_wp2
            go_roundw
            case rel => exact ⟨k + 1, Y, by omega, by go_num, rfl, by have h1 := HY.out; have h2 := HX.out; have h3 := sumC_snoc HP.out; simp only at h3; omega, hbl⟩
            case measure => simp [intOf]; omega
    · obtain rfl : k = ps.length := by omega
      have dk : decide ((ps.length : Int) < ps.length) = false := by simp
      have hxe : (X : Int) = (a : Int) + (1 + (r : Int)) := by
        have h1 := HX.out
        rw [List.take_of_length_le (Nat.le_refl _), E1.out, HCR.out] at h1
        omega
      have hxb : ((X : Int) == (a : Int) + (1 + (r : Int))) = true := by rw [hxe]; simp
      have B8 := Lib.hid (B5.out.trans (hbr.mono B5.out.size))
      clear hxe
      go_wp2
      go_ret
      exact ⟨rfl, B8.out⟩
end Go.Proofs.Ythckkmoafobmnaa

/- The statements of layer 6, walked: PlanReads. -/
import Derived.Test.YthckkmoafobmnaaPlanLawsA
namespace Go.Proofs.Ythckkmoafobmnaa
open Go.RowKit Go.ChangeShapes Go.WideShapes

theorem namedL_map (ss : List ByteArray) (r : List Nat) (h : ∀ x ∈ r, x < ss.length) : (namedL ss r).map bsOf = namedL (ss.map bsOf) r := by
  unfold namedL
  rw [List.map_map]
  refine List.map_congr_left fun x hx => ?_
  have := h x hx
  simp [List.getElem?_eq_getElem this]
theorem namedL_size (ss : List ByteArray) (r : List Nat) (h : ∀ x ∈ r, x < ss.length) (hz : ∀ s ∈ ss, s.size = 16) : ∀ s ∈ namedL ss r, s.size = 16 := by
  intro s hs
  obtain ⟨x, hx, rfl⟩ := List.mem_map.1 hs
  have := h x hx
  simp only [List.getD_eq_getElem?_getD, List.getElem?_eq_getElem this, Option.getD_some]
  exact hz _ (List.getElem_mem this)
theorem allLen_of {ss : List ByteArray} (hz : ∀ s ∈ ss, s.size = 16) : AllLen 16 (ss.map bsOf) := by
  intro x hx
  obtain ⟨y, hy, rfl⟩ := List.mem_map.1 hx
  exact hz y hy
/-- what is got of a stripe that is nought is the block -/
theorem plan_got_is (N col : Nat) (S out : Int) (A : Option Addr) (n c : Nat) (L : List ByteArray) (y : ByteArray) (w : World) (h : ColsOk N col out) (hs : 1 ≤ S ∧ S ≤ 8) (hr : Reads w w.heap.size A n ((namedL L (fetchR N col out)).map .string)) (hnc : n ≤ c)
    (hL : L.length = N) (hz : ∀ s ∈ L, s.size = 16) (h0 : sumL 16 (L.map bsOf) = noughts 16) (hy : L[col]? = some y) :
    Calls Try.prog 18 #[.agg #[.int .i64 N, .int .i64 S], .int .i64 col, .int .i64 out, .slice A n c] w fun e w' => e = .returned (.tuple #[.string y, .int .i64 0]) ∧ Below w.heap.size w w' := by
  have hin : ∀ x ∈ fetchR N col out, x < L.length := fun x hx => by rw [hL]; exact (fetchR_out h x hx).2
  have hn : n = (fetchR N col out).length := by rw [← hr.len]; simp [namedL]
  have h1 := plan_got N col S out A n c (namedL L (fetchR N col out)) w h hs hr hnc hn (namedL_size L _ hin hz)
  have e1 : sumL 16 ((namedL L (fetchR N col out)).map bsOf) = bsOf y := by
    rw [namedL_map L _ hin, fetch_is h (allLen_of hz) (by rw [List.length_map, hL]) h0]
    simp [hy]
  rw [e1] at h1
  exact h1

set_option maxRecDepth 100000 in
set_option maxHeartbeats 6400000 in
/-- PlanReads -/
theorem planReads_any (ra rb : Int) (A0 : Option Addr) (n0 k0' : Nat) (raw : List ByteArray) (c0 o0 : Int) (w : World) (hra : (Lit.int .i64 ra).wf = true) (hrb : (Lit.int .i64 rb).wf = true) (hn0 : n0 ≤ 8796093022208) (hraw : Reads w w.heap.size A0 n0 (raw.map .string)) (hrs : ∀ s ∈ raw, s.size ≤ 140737488351232) (hc : (Lit.int .i64 c0).wf = true) (ho : (Lit.int .i64 o0).wf = true) :
    Holds Try.prog 3 #[.agg #[.int .i64 ra, .int .i64 rb], .slice A0 n0 k0', .int .i64 c0, .int .i64 o0] w := by
  unfold Holds
  have HRAW := Lib.hid hraw
  have HRS := Lib.hid hrs
  clear hraw hrs
  go_enter Try.func3, Try.ntmps3
  go_wp2_with fail
  refine (awake06 _).mono ?_
  rintro e w1 ⟨rfl, b1⟩
  have g1 := (Geo.boxed w ra rb 23).later b1
  replace b1 := below_boxed b1
  obtain ⟨_, k0, k1⟩ := g1
  go_wp2_with fail
  clear k0 k1
  refine (fit05 ra rb _ hra hrb).mono ?_
  rintro e w2 ⟨N, S, n3, n6, s1, s8, rfl, b2⟩
  replace b2 := below_call b1 b2
  have g3 := Geo.boxed w2 N S 23
  have b3 := b2.alloc b2.size (.cells #[.int .i64 N, .int .i64 S] 23)
  obtain ⟨M, col, rfl, hcol, hok⟩ := cols_of (c0 := c0) (o0 := o0) n3 n6
  have P1 := Lib.hid (fun w' => pick06 c0 ((M : Int) - 1) w' hc (by omega) (by omega))
  have P2 := Lib.hid (fun w' => pick06 o0 ((M : Int) + 1) w' ho (by omega) (by omega))
  obtain ⟨out, hout⟩ : ∃ out, pickI o0 ((M : Int) + 1) - 1 = out := ⟨_, rfl⟩
  rw [hout] at hok
  rw [show pickI o0 ((M : Int) + 1) = out + 1 by omega] at P2
  rw [hcol] at P1
  have HOK := Lib.hid hok
  have hout0 : -1 ≤ out := hok.2.2.2.1
  have hout1 : out < M := hok.2.2.2.2
  have hcol1 : (col : Int) < M - 1 := by have := hok.2.2.1; omega
  clear hcol hout hok b1 b2
  have f1 := fetchR_out HOK.out
  have f2 := fetchB_out HOK.out
  obtain ⟨a, ha⟩ : ∃ a, fetchR M col out = a := ⟨_, rfl⟩
  obtain ⟨fb, hfb⟩ : ∃ b, fetchB M col out = b := ⟨_, rfl⟩
  have C1 := Lib.hid (fun w' => plan_fetch_val M col S out w' HOK.out ⟨s1, s8⟩ a fb ha hfb M col rfl rfl)
  have F3 := Lib.hid (fetchB_len M col out)
  have F4 := Lib.hid (fetchR_len HOK.out)
  rw [ha] at f1 F4
  rw [hfb] at f2 F3
  have HA := Lib.hid ha
  have F1 := Lib.hid f1
  have F2 := Lib.hid f2
  have G3 := Lib.hid g3
  have B3 := Lib.hid b3
  clear ha hfb f1 f2 b3
  obtain ⟨_, k0, k1⟩ := g3
  have HM3 : 3 ≤ M := by omega
  have HM6 : M ≤ 6 := by omega
  go_wp2_with fail
  clear k0 k1
  refine (stripe06 M S A0 n0 k0' raw _ HM3 HM6 hn0 ((HRAW.out.below B3.out).more B3.out.size) HRS.out).mono ?_
  rintro e w4 ⟨AL, cl, L, rfl, ol, hL1, hL2, hL3, b4⟩
  have g4 := G3.out.later b4
  have B4 := Lib.hid (below_call B3.out b4)
  have G4 := Lib.hid g4
  have OL := Lib.hid ol
  have HL1 := Lib.hid hL1
  have HL2 := Lib.hid hL2
  have HL3 := Lib.hid hL3
  clear b4 G3 B3 ol hL1 hL2 hL3
  obtain ⟨_, k0, k1⟩ := g4
  go_wp2_with fail
  refine (P1.out _).mono ?_
  rintro e w5 ⟨rfl, rfl⟩
  go_wp2_with fail
  refine (P2.out _).mono ?_
  rintro e w5 ⟨rfl, rfl⟩
  go_wp2_with fail
  clear k0 k1 P1 P2
  refine (C1.out _).mono ?_
  rintro e w5 ⟨b5, A1, c1, A2, c2, rfl, r1, r2, -, -⟩
  have g5 := G4.out.later b5
  have OL5 := Lib.hid (OL.out.later b5)
  have B5 := Lib.hid (below_call B4.out b5)
  have G5 := Lib.hid g5
  have R1 := Lib.hid r1
  have R2 := Lib.hid r2
  clear b5 G4 B4 C1 OL r1 r2
  obtain ⟨_, k0, k1⟩ := g5
  have f4a : a.length < M := F4.out.2
  have hfbl : fb.length ≤ 1 := by
    have h := F3.out
    split at h <;> omega
  have hcM : col < M := by omega
  obtain ⟨y, hy⟩ : ∃ y, L[col]? = some y := ⟨L[col]'(by rw [HL1.out]; exact hcM), List.getElem?_eq_getElem _⟩
  have HY := Lib.hid hy
  have hg5 : w2.heap.size < w5.heap.size := by assumption
  generalize w2.heap.size = g at *
  clear hy
  go_wp2_with fail
  have b10 := B5.out.drew
  have CN := Lib.hid (named06 AL A1 M cl a.length c1 L a w5.drew OL5.out.reads R1.out (by omega) (by omega) (fun x hx => (F1.out x hx).2))
  have CG := Lib.hid (fun A3 c3 w6 (h : Own w6 w5.drew.heap.size 9 A3 a.length c3 ((namedL L a).map .string)) => plan_got_is M col S out A3 a.length c3 L y w6 HOK.out ⟨s1, s8⟩ (by rw [HA.out]; exact h.reads) h.cap HL1.out HL2.out HL3.out HY.out)
  go_region_held3 (fun w' => w'.cell? ⟨g, 0, none⟩ = some (.int .i64 (M : Int)) ∧ w'.cell? ⟨g, 1, none⟩ = some (.int .i64 S))
    (first
      | exact ⟨j0, j1⟩
      | exact ⟨i0, i1⟩
      | exact ⟨k0, k1⟩)
    (first
      | ((go_at_call 19; with_reducible refine CN.out.mono ?_); rintro e w6 ⟨A3, c3, rfl, o6, b6⟩
         have i0 : w6.cell? ⟨g, 0, none⟩ = some (.int .i64 (M : Int)) := keep_cell b6 (by assumption)
         have i1 : w6.cell? ⟨g, 1, none⟩ = some (.int .i64 S) := keep_cell b6 (by assumption)
         have b11 := below_call b10 b6
         have z6 : Below w5.heap.size w5 w6 := (Below.refl _ _).drew.trans b6)
      | ((go_at_call 18; with_reducible refine (CG.out _ _ _ o6).mono ?_); rintro e w7 ⟨rfl, b7⟩
         have j0 : w7.cell? ⟨g, 0, none⟩ = some (.int .i64 (M : Int)) := keep_cell b7 (by assumption)
         have j1 : w7.cell? ⟨g, 1, none⟩ = some (.int .i64 S) := keep_cell b7 (by assumption)
         have b12 := below_call b11 b7
         have z7 := z6.trans (b7.mono z6.size)))
  have R1' := Lib.hid ((R1.out.below z7).more z7.size)
  have R2' := Lib.hid ((R2.out.below z7).more z7.size)
  have OL7 := Lib.hid (OL5.out.later z7)
  have B7 := Lib.hid b12
  clear R1 R2 OL5 CN CG b10 b11 b12 z6 z7 b6 b7 k0 k1 i0 i1 o6 B5 G5 HRAW HRS
  go_wp2
  go_loopw [17] (fun i wr => ∃ (k : Nat), k ≤ a.length ∧ i = .int .i64 k ∧ ∃ m, wr = w7.drewN m) (fun i _ => a.length - (intOf i).toNat)
  case atStart => exact ⟨0, Nat.zero_le _, rfl, 0, rfl⟩
  case round =>
    obtain ⟨k, hk, rfl, m, rfl⟩ := hrel
    by_cases hkn : k < a.length
    · have dk : decide ((k : Int) < a.length) = true := by simp; omega
      have kn : (k : Int) < a.length := by omega
      obtain ⟨g4, o4, x, rfl, hg4, hf4, x4⟩ := natV_at R1'.out hkn
      have ne : ((x : Int) == out) = false := beq_eq_false_iff_ne.2 (F1.out x (List.mem_of_getElem? hf4)).1
      clear hf4
      go_wp2
      go_roundw
      case rel => exact ⟨k + 1, by omega, by go_num, m, rfl⟩
      case measure => simp [intOf]; omega
    · obtain rfl : k = a.length := by omega
      have dk : decide ((a.length : Int) < a.length) = false := by simp
      go_wp2
      go_loopw [18] (fun i wr => ∃ (k : Nat), k ≤ fb.length ∧ i = .int .i64 k ∧ ∃ m, wr = w7.drewN m) (fun i _ => fb.length - (intOf i).toNat)
      case atStart => exact ⟨0, Nat.zero_le _, rfl, m, rfl⟩
      case round =>
        obtain ⟨k, hk, rfl, m, rfl⟩ := hrel
        by_cases hkn : k < fb.length
        · have dk : decide ((k : Int) < fb.length) = true := by simp; omega
          have kn : (k : Int) < fb.length := by omega
          obtain ⟨g4, o4, x, rfl, hg4, hf4, x4⟩ := natV_at R2'.out hkn
          have hx := F2.out x (List.mem_of_getElem? hf4)
          have ne1 : ((x : Int) == (col : Int)) = false := beq_eq_false_iff_ne.2 (by have := hx.1; omega)
          have ne2 : ((x : Int) == out) = false := beq_eq_false_iff_ne.2 hx.2
          clear hf4 hx
          go_wp2
          go_roundw
          case rel => exact ⟨k + 1, by omega, by go_num, m, rfl⟩
          case measure => simp [intOf]; omega
        · obtain rfl : k = fb.length := by omega
          have dk2 : decide ((fb.length : Int) < fb.length) = false := by simp
          obtain ⟨g4, o4, u, rfl, hg4, hf4, x4⟩ := OL7.out.reads.at_ hcM
          rw [List.getElem?_map, HY.out] at hf4
          obtain rfl := Option.some.inj hf4
          have hcM' : (col : Int) < M := by omega
          have B8 := Lib.hid (B7.out.trans (show Below w.heap.size w7 (w7.drewN m) from ⟨rfl, rfl, rfl, Nat.le_refl _, fun _ _ => rfl⟩))
          clear hf4
          by_cases ho1 : out = -1
          · subst ho1
            have h3 := F3.out
            rw [if_pos rfl] at h3
            have h4 := F4.out.1
            have l1 : decide ((2 : Int) ≤ (a.length : Int) + 1) = true := by simp; omega
            clear F3 F4 R1' R2' OL7 B7
            go_wp2
            go_ret
            exact ⟨rfl, B8.out⟩
          · have l1 : (out != -1) = true := by simpa using ho1
            clear F3 F4 R1' R2' OL7 B7
            go_wp2
            go_ret
            exact ⟨rfl, B8.out⟩
end Go.Proofs.Ythckkmoafobmnaa

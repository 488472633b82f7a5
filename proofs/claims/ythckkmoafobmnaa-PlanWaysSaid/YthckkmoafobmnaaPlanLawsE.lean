/- The statements of layer 6, walked: PlanWrites. -/
import Derived.Test.YthckkmoafobmnaaPlanWrMath
import Derived.Deep.QuietTactic
import Derived.BigQuiet
import Derived.StillTailTactics
namespace Go.Proofs.Ythckkmoafobmnaa
open Go.RowKit Go.ChangeShapes Go.WideShapes

def MadeAs (B : Nat) (e : Ending) (w' : World) (l : List (List UInt8)) : Prop := ∃ A1 c1, e = .returned (.tuple #[.slice A1 l.length c1, .int .i64 0]) ∧ Reads w' w'.heap.size A1 l.length (l.map textV) ∧ Fresh B A1
/-- what is made of a stripe -/
theorem plan_made_is (N col : Nat) (S out : Int) (A : Option Addr) (n c : Nat) (L : List ByteArray) (d : ByteArray) (w : World) (h : ColsOk N col out) (hs : 1 ≤ S ∧ S ≤ 8) (hr : Reads w w.heap.size A n ((namedL L (updR N col out)).map .string)) (hnc : n ≤ c)
    (hL : L.length = N) (hz : ∀ s ∈ L, s.size = 16) (hd : d.size = 16) (l : List (List UInt8)) (hl : planW N col out (namedL (L.map bsOf) (updR N col out)) (bsOf d) = l) :
    Calls Try.prog 22 #[.agg #[.int .i64 N, .int .i64 S], .int .i64 col, .int .i64 out, .slice A n c, .string d] w fun e w' => Below w.heap.size w w' ∧ MadeAs w.heap.size e w' l := by
  have hin : ∀ x ∈ updR N col out, x < L.length := fun x hx => by rw [hL]; exact (updR_out h x hx).2
  have hn : n = (updR N col out).length := by rw [← hr.len]; simp [namedL]
  have h1 := plan_made N col S out A n c (namedL L (updR N col out)) d w h hs hr hnc hn (namedL_size L _ hin hz) hd
  rw [namedL_map L _ hin, hl] at h1
  exact h1

theorem text_at {l : List ByteArray} {k : Nat} {d : ByteArray} (h : (l.map bsOf)[k]? = some (bsOf d)) : (l.map Value.string)[k]? = some (.string d) := by
  rw [List.getElem?_map] at h ⊢
  obtain ⟨y, hy, he⟩ := Option.map_eq_some_iff.1 h
  rw [hy]
  have : y = d := ByteArray.ext (Array.toList_inj.1 he)
  rw [this]
  rfl

/-- of the first k texts all but one -/
def butL (L : List ByteArray) (o k : Nat) : List ByteArray := (L.take k).take o ++ (L.take k).drop (o + 1)
theorem butL_le (L : List ByteArray) (o k : Nat) : (butL L o k).length ≤ L.length := by
  unfold butL
  simp
  omega
theorem butL_same (L : List ByteArray) (o : Nat) : butL L o (o + 1) = butL L o o := by
  unfold butL
  rw [List.take_take, List.take_take, Nat.min_eq_left (by omega), Nat.min_self, List.drop_of_length_le (by simp; omega), List.drop_of_length_le (by simp; omega)]
theorem butL_more (L : List ByteArray) (o k : Nat) (hk : k < L.length) (hne : k ≠ o) : butL L o (k + 1) = butL L o k ++ [L[k]] := by
  unfold butL
  by_cases h : k < o
  · rw [List.take_take, List.take_take, Nat.min_eq_right (by omega), Nat.min_eq_right (by omega), List.drop_of_length_le (by simp; omega), List.drop_of_length_le (by simp; omega), List.append_nil, List.append_nil, List.take_add_one, List.getElem?_eq_getElem hk]
    rfl
  · rw [List.take_take, List.take_take, Nat.min_eq_left (by omega), Nat.min_eq_left (by omega), List.append_assoc]
    congr 1
    rw [List.take_add_one, List.getElem?_eq_getElem hk, List.drop_append_of_le_length (by simp; omega)]
    rfl

set_option maxRecDepth 100000 in
set_option maxHeartbeats 12800000 in
/-- PlanWrites -/
theorem planWrites_any (ra rb : Int) (A0 : Option Addr) (n0 k0' : Nat) (raw : List ByteArray) (c0 o0 : Int) (dt : ByteArray) (w : World) (hra : (Lit.int .i64 ra).wf = true) (hrb : (Lit.int .i64 rb).wf = true) (hn0 : n0 ≤ 8796093022208) (hraw : Reads w w.heap.size A0 n0 (raw.map .string)) (hrs : ∀ s ∈ raw, s.size ≤ 140737488351232) (hc : (Lit.int .i64 c0).wf = true) (ho : (Lit.int .i64 o0).wf = true) (hdt : dt.size ≤ 140737488351232) :
    Holds Try.prog 4 #[.agg #[.int .i64 ra, .int .i64 rb], .slice A0 n0 k0', .int .i64 c0, .int .i64 o0, .string dt] w := by
  unfold Holds
  have HRAW := Lib.hid hraw
  have HRS := Lib.hid hrs
  clear hraw hrs
  go_enter Try.func4, Try.ntmps4
  go_wp2_with fail
  refine (awake06 _).mono ?_
  rintro e w1 ⟨rfl, b1⟩
  have g1 := (Geo.boxed w ra rb 23).later b1
  replace b1 := below_boxed b1
  obtain ⟨_, k0, k1⟩ := g1
  go_wp2_with fail
  clear k0 k1
  refine (fit05 ra rb _ hra hrb).mono ?_
  rintro e w2 ⟨N, S, n3, n6, s1, s8, rfl, b2⟩
  replace b2 := below_call b1 b2
  have g3 := Geo.boxed w2 N S 23
  have b3 := b2.alloc b2.size (.cells #[.int .i64 N, .int .i64 S] 23)
  obtain ⟨M, col, rfl, hcol, hok⟩ := cols_of (c0 := c0) (o0 := o0) n3 n6
  have P1 := Lib.hid (fun w' => pick06 c0 ((M : Int) - 1) w' hc (by omega) (by omega))
  have P2 := Lib.hid (fun w' => pick06 o0 ((M : Int) + 1) w' ho (by omega) (by omega))
  obtain ⟨out, hout⟩ : ∃ out, pickI o0 ((M : Int) + 1) - 1 = out := ⟨_, rfl⟩
  rw [hout] at hok
  rw [show pickI o0 ((M : Int) + 1) = out + 1 by omega] at P2
  rw [hcol] at P1
  have HOK := Lib.hid hok
  have hout0 : -1 ≤ out := hok.2.2.2.1
  have hout1 : out < M := hok.2.2.2.2
  have hcol1 : (col : Int) < M - 1 := by have := hok.2.2.1; omega
  clear hcol hout hok b1 b2
  have f1 := updR_out HOK.out
  have f2 := updW_out HOK.out
  obtain ⟨a, ha⟩ : ∃ a, updR M col out = a := ⟨_, rfl⟩
  obtain ⟨u, hu⟩ : ∃ b, updW M col out = b := ⟨_, rfl⟩
  have C1 := Lib.hid (fun w' => plan_update_val M col S out w' HOK.out ⟨s1, s8⟩ a u ha hu M col rfl rfl)
  have f4a := updR_len HOK.out
  have f4u := updW_len M col out
  rw [ha] at f1 f4a
  rw [hu] at f2 f4u
  have HA := Lib.hid ha
  have HU := Lib.hid hu
  have F1 := Lib.hid f1
  have F2 := Lib.hid f2
  have G3 := Lib.hid g3
  have B3 := Lib.hid b3
  have hwB3 := b3.size
  clear ha hu f1 f2 b3
  obtain ⟨_, k0, k1⟩ := g3
  have HM3 : 3 ≤ M := by omega
  have HM6 : M ≤ 6 := by omega
  go_wp2_with fail
  clear k0 k1
  refine (stripe06 M S A0 n0 k0' raw _ HM3 HM6 hn0 ((HRAW.out.below B3.out).more B3.out.size) HRS.out).mono ?_
  rintro e w4 ⟨AL, cl, L, rfl, ol, hL1, hL2, hL3, b4⟩
  have g4 := G3.out.later b4
  have hAL4 : ∀ g, AL = some ⟨g, 0, none⟩ → g < w4.heap.size := fun g hg => (ol.lt g hg).1
  have B4 := Lib.hid (below_call B3.out b4)
  have G4 := Lib.hid g4
  have OL := Lib.hid ol
  have HL1 := Lib.hid hL1
  have HL2 := Lib.hid hL2
  have HL3 := Lib.hid hL3
  clear b4 G3 B3 ol hL1 hL2 hL3 HRAW HRS
  obtain ⟨_, k0, k1⟩ := g4
  go_wp2_with fail
  refine (P1.out _).mono ?_
  rintro e w4 ⟨rfl, rfl⟩
  go_wp2_with fail
  refine (P2.out _).mono ?_
  rintro e w4 ⟨rfl, rfl⟩
  go_wp2_with fail
  clear k0 k1 P1 P2
  refine (texts_some _ 1 1 [dt] _ _ 1 16 _ rfl rfl (by omega) ((reads_lit _ [.string dt] _ 1 rfl).more (by simp)) (by intro s hs; simp at hs; rw [hs]; exact hdt) (by omega) (by omega)).mono ?_
  rintro e w5 ⟨A1, c1, ld, rfl, hl1, hl2, o5, b5⟩
  have b5' := (((Below.refl _ _).alloc (Nat.le_refl _) _).trans (b5.mono (by simp)) : Below w4.heap.size w4 w5)
  obtain ⟨d, rfl⟩ : ∃ d, ld = [d] := by
    match ld, hl1 with
    | [d], _ => exact ⟨d, rfl⟩
  have hd : d.size = 16 := hl2 d (by simp)
  have HD := Lib.hid hd
  obtain ⟨gd, od, ud, rfl, hgd, hud, cd⟩ := o5.reads.at_ (k := 0) (by omega)
  obtain rfl : Value.string d = ud := by simpa using hud
  rw [Nat.add_zero] at cd
  have G5 := Lib.hid (G4.out.later b5')
  have OL5 := Lib.hid (OL.out.later b5')
  have B5 := Lib.hid (below_call B4.out b5')
  have hw45 := b5'.size
  have HAL4 := Lib.hid hAL4
  clear b5 b5' hd hl1 hl2 o5 hud G4 OL B4 hAL4
  obtain ⟨_, k0, k1⟩ := G5.out
  go_wp2_with fail
  clear k0 k1 cd
  refine (C1.out _).mono ?_
  rintro e w6 ⟨b6, A1, c1', A2, c2, rfl, r1, r2, fr1, fr2⟩
  have G6 := Lib.hid (G5.out.later b6)
  have OL6 := Lib.hid (OL5.out.later b6)
  have B6 := Lib.hid (below_call B5.out b6)
  have R1 := Lib.hid r1
  have R2 := Lib.hid r2
  have hw56 := b6.size
  have FR2 := Lib.hid fr2
  clear fr1 fr2
  clear b6 G5 OL5 B5 C1 r1 r2
  obtain ⟨hg6, k0, k1⟩ := G6.out
  obtain ⟨l, hl⟩ : ∃ l, planW M col out (namedL (L.map bsOf) (updR M col out)) (bsOf d) = l := ⟨_, rfl⟩
  have HLW := Lib.hid hl
  have CN := Lib.hid (named06 AL A1 M cl a.length c1' L a w6.drew OL6.out.reads R1.out (by omega) (by omega) (fun x hx => (F1.out x hx).2))
  have CM := Lib.hid (fun A3 c3 w7 (h : Own w7 w6.drew.heap.size 9 A3 a.length c3 ((namedL L a).map .string)) => plan_made_is M col S out A3 a.length c3 L d w7 HOK.out ⟨s1, s8⟩ (by rw [HA.out]; exact h.reads) h.cap HL1.out HL2.out HD.out l HLW.out)
  clear hl
  generalize w2.heap.size = g at *
  go_wp2_with fail
  have b10 := B6.out.drew
  go_region_held3 (fun w' => w'.cell? ⟨g, 0, none⟩ = some (.int .i64 (M : Int)) ∧ w'.cell? ⟨g, 1, none⟩ = some (.int .i64 S))
    (first
      | exact ⟨j0, j1⟩
      | exact ⟨i0, i1⟩
      | exact ⟨k0, k1⟩)
    (first
      | ((go_at_call 19; with_reducible refine CN.out.mono ?_); rintro e w7 ⟨A3, c3, rfl, o7, b7⟩
         have i0 : w7.cell? ⟨g, 0, none⟩ = some (.int .i64 (M : Int)) := keep_cell b7 (by assumption)
         have i1 : w7.cell? ⟨g, 1, none⟩ = some (.int .i64 S) := keep_cell b7 (by assumption)
         have b11 := below_call b10 b7
         have z7 : Below w6.heap.size w6 w7 := (Below.refl _ _).drew.trans b7)
      | ((go_at_call 22; with_reducible refine (CM.out _ _ _ o7).mono ?_); rintro e w8 ⟨b8, A4, c4, rfl, r8, fr8⟩
         have hs78 := z7.size
         have j0 : w8.cell? ⟨g, 0, none⟩ = some (.int .i64 (M : Int)) := keep_cell b8 (by assumption)
         have j1 : w8.cell? ⟨g, 1, none⟩ = some (.int .i64 S) := keep_cell b8 (by assumption)
         have b12 := below_call b11 b8
         have z8 := z7.trans (b8.mono z7.size)))
  have hll : l.length = u.length := by
    rw [← HLW.out, ← HU.out]
    unfold planW updW
    split
    · rfl
    · split <;> rfl
  have dll : ((l.length : Int) != (u.length : Int)) = false := by rw [hll]; simp
  have R1' := Lib.hid ((R1.out.below z8).more z8.size)
  have R2' := Lib.hid ((R2.out.below z8).more z8.size)
  have OL8 := Lib.hid (OL6.out.later z8)
  have B8 := Lib.hid b12
  have R8 := Lib.hid r8
  have G8 := Lib.hid (G6.out.later z8)
  have HLL := Lib.hid hll
  clear R1 R2 OL6 CN CM b10 b11 b12 z7 z8 b7 b8 k0 k1 i0 i1 o7 r8 B6 G6 hll j0 j1
  obtain ⟨gl, rfl, hbl, hrow⟩ := OL8.out.row (by omega)
  have hgl4 : gl < w4.heap.size := HAL4.out gl rfl
  have hne2 : ∀ b o, A2 = some ⟨b, o, none⟩ → b ≠ gl := fun b o h => by
    have := FR2.out b o h
    omega
  have hne4 : ∀ b o, A4 = some ⟨b, o, none⟩ → b ≠ gl := fun b o h => by
    have := fr8 b o h
    omega
  have hneg : g ≠ gl := by omega
  have HNE2 := Lib.hid hne2
  have HNE4 := Lib.hid hne4
  have HNEG := Lib.hid hneg
  have HROW := Lib.hid hrow
  have HGL4 := Lib.hid hgl4
  have hglB : w.heap.size ≤ gl := Nat.le_trans hwB3 hbl
  have HGLB := Lib.hid hglB
  clear hne2 hne4 hneg hrow hgl4 hglB hbl hwB3 fr8 FR2 HAL4 OL8 hs78 hw45 hw56
  obtain ⟨sl, hsl⟩ : ∃ sl : List ByteArray, sl = l.map fun x => (⟨x.toArray⟩ : ByteArray) := ⟨_, rfl⟩
  have hsll : sl.length = u.length := by rw [hsl, List.length_map, HLL.out]
  have hst : l.map textV = sl.map .string := by rw [hsl, List.map_map]; rfl
  have hsb : sl.map bsOf = l := by
    rw [hsl, List.map_map]
    conv => rhs; rw [← List.map_id l]
    rfl
  have R8' : Hid (Reads w8 w8.heap.size A4 u.length (sl.map .string)) := by
    have h := R8.out
    rw [hst, HLL.out] at h
    exact h
  have HSLL := Lib.hid hsll
  have HSB := Lib.hid hsb
  clear hsl hsll hst hsb R8
  have dll' : decide (u.length = l.length) = true := by rw [HLL.out]; simp
  go_wp2
  go_loopw [19] (fun i wr => ∃ (k : Nat), k ≤ a.length ∧ i = .int .i64 k ∧ w8 = wr) (fun i _ => a.length - (intOf i).toNat)
  case atStart => exact ⟨0, Nat.zero_le _, rfl, rfl⟩
  case round =>
    obtain ⟨k, hk, rfl, rfl⟩ := hrel
    by_cases hkn : k < a.length
    · have dk : decide ((k : Int) < a.length) = true := by simp; omega
      have kn : (k : Int) < a.length := by omega
      obtain ⟨g4, o4, x, rfl, hg4, hf4, x4⟩ := natV_at R1'.out hkn
      have ne : ((x : Int) == out) = false := beq_eq_false_iff_ne.2 (F1.out x (List.mem_of_getElem? hf4)).1
      clear hf4
      go_wp2
      go_roundw
      case rel => exact ⟨k + 1, by omega, by go_num, by first | rfl | trivial⟩
      case measure => simp [intOf]; omega
    · obtain rfl : k = a.length := by omega
      have dk : decide ((a.length : Int) < a.length) = false := by simp
      go_wp2
      go_loopw [20] (fun i wr => ∃ (k : Nat), k ≤ u.length ∧ i = .int .i64 k ∧ Row wr gl ((setK L u sl k).map .string) ∧ KeepBut gl w8 wr ∧ Below w.heap.size w wr) (fun i _ => u.length - (intOf i).toNat)
      case atStart => exact ⟨0, Nat.zero_le _, rfl, HROW.out, KeepBut.refl _ _, B8.out⟩
      case round =>
        obtain ⟨k, hk, rfl, hrw, hkb, hbr⟩ := hrel
        have HRW := Lib.hid hrw
        have HKB := Lib.hid hkb
        have HBR := Lib.hid hbr
        clear hrw hkb hbr
        by_cases hkn : k < u.length
        · have dk : decide ((k : Int) < u.length) = true := by simp; omega
          have kn : (k : Int) < u.length := by omega
          have hg' := G8.out
          obtain ⟨hgs, t0, t1⟩ := hg'
          have k0 : _ = some (Value.int .i64 (M : Int)) := (HKB.out.2 ⟨g, 0, none⟩ hgs HNEG.out).trans t0
          have k1 : _ = some (Value.int .i64 S) := (HKB.out.2 ⟨g, 1, none⟩ hgs HNEG.out).trans t1
          obtain ⟨g4, o4, x, hA2, hg4, hf4, x4⟩ := natV_at (reads_but R2'.out (Nat.le_refl _) HNE2.out HKB.out) hkn
          subst hA2
          have hx := F2.out x (List.mem_of_getElem? hf4)
          obtain ⟨g5, o5, uv, hA4, hg5, hf5, y5⟩ := (reads_but R8'.out (Nat.le_refl _) HNE4.out HKB.out).at_ hkn
          subst hA4
          rw [List.getElem?_map] at hf5
          obtain ⟨y, hy, rfl⟩ := Option.map_eq_some_iff.1 hf5
          have ne1 : ((x : Int) == out) = false := beq_eq_false_iff_ne.2 hx.1
          have ne2 : decide ((x : Int) < 0) = false := by simp
          have ne3 : decide ((M : Int) ≤ (x : Int)) = false := by simp; omega
          have ne3' : decide (M ≤ x) = false := by simp; omega
          have xM : (x : Int) < M := by omega
          have kl : (k : Int) < l.length := by rw [HLL.out]; exact kn
          have hxl : x < ((setK L u sl k).map Value.string).length := by rw [List.length_map, setK_length, HL1.out]; exact hx.2
          have hnext : ((setK L u sl k).map Value.string).set x (.string y) = (setK L u sl (k + 1)).map Value.string := by
            rw [setK, List.getD_eq_getElem?_getD, List.getD_eq_getElem?_getD, hf4, hy, Option.getD_some, Option.getD_some, List.map_set]
          have m0 : _ = some (((setK L u sl k).map Value.string)[x]'hxl) := HRW.out.cell (List.getElem?_eq_getElem hxl)
          have m1 := HRW.out.free hxl
          have HNX := Lib.hid hnext
          obtain ⟨old, hold⟩ : ∃ old, ((setK L u sl k).map Value.string)[x]'hxl = old := ⟨_, rfl⟩
          rw [hold] at m0
          clear t0 t1 hgs hnext hf4 hy hx hold hxl
          go_wp2
          go_quiet (fail)
          clear ne1 ne2 ne3 ne3'
          go_wp2
          generalize hW : World.drewN _ _ = W
          replace x4 : W.cell? ⟨g4, o4 + k, none⟩ = some (.int .i64 (x : Int)) := by rw [← hW]; exact x4
          replace y5 : W.cell? ⟨g5, o5 + k, none⟩ = some (.string y) := by rw [← hW]; exact y5
          replace m0 : W.cell? ⟨gl, x, none⟩ = some old := by rw [← hW]; exact m0
          replace m1 : W.frozen? ⟨gl, x, none⟩ = false := by rw [← hW]; exact m1
          have hrw2 : Row W gl ((setK L u sl k).map .string) := by rw [← hW]; exact HRW.out
          have hkb2 : KeepBut gl w8 W := by rw [← hW]; exact HKB.out
          have hbr2 : Below w.heap.size w W := by rw [← hW]; exact HBR.out.trans ⟨rfl, rfl, rfl, Nat.le_refl _, fun _ _ => rfl⟩
          have HRW2 := Lib.hid hrw2
          have HKB2 := Lib.hid hkb2
          have HBR2 := Lib.hid hbr2
          have xM' : x < M := by omega
          have kl' : k < l.length := by rw [HLL.out]; exact hkn
          clear hW hrw2 hkb2 hbr2 k0 k1 HRW HKB HBR
          refine wp_region_still_tail 10 (by kernel_rfl) (by kernel_rfl) ?_
          simp only [List.take_succ_cons, List.take_zero, List.drop_succ_cons, List.drop_zero]
          repeat still_step
          refine wpStill_nil ?_
          go_wp2
          go_roundw
          case rel =>
            refine ⟨k + 1, by omega, by go_num, ?_, (HKB2.out.setCell x (.string y)).drew, ?_⟩
            · rw [← HNX.out]
              exact (HRW2.out.set_ x (.string y)).drew
            · exact (HBR2.out.setCell (p := ⟨gl, x, none⟩) HGLB.out _).drew
          case measure => simp [intOf]; omega
        · obtain rfl : k = u.length := by omega
          have dk2 : decide ((u.length : Int) < u.length) = false := by simp
          obtain ⟨L1, hL1e⟩ : ∃ L1, setK L u sl u.length = L1 := ⟨_, rfl⟩
          have q1 : L1.length = M := by rw [← hL1e, setK_length, HL1.out]
          have q2 : L1.map bsOf = setL (L.map bsOf) u l := by rw [← hL1e, setK_map L u sl f4u HSLL.out, HSB.out]
          have q3 : ∀ x ∈ L1, x.size = 16 := by
            rw [← hL1e]
            refine setK_size L u sl HL2.out (fun x hx => ?_) _ (by rw [HSLL.out]; exact Nat.le_refl _)
            have h1 := planW_len HOK.out (allLen_of HL2.out) (by rw [List.length_map, HL1.out]) (d := bsOf d) HD.out
            rw [HLW.out, ← HSB.out] at h1
            exact h1 (bsOf x) (List.mem_map.2 ⟨x, hx, rfl⟩)
          have hq2 : setL (L.map bsOf) u l = setL (L.map bsOf) (updW M col out) (planW M col out (namedL (L.map bsOf) (updR M col out)) (bsOf d)) := by rw [HU.out, HLW.out]
          have hrw := HRW.out
          rw [hL1e] at hrw
          have Q1 := Lib.hid q1
          have Q2 := Lib.hid (q2.trans hq2)
          have Q3 := Lib.hid q3
          have HRW1 := Lib.hid hrw
          clear hL1e q1 q2 q3 hq2 hrw HRW
          have hlm : (L.map bsOf).length = M := by rw [List.length_map, HL1.out]
          have HLM := Lib.hid hlm
          clear hlm
          by_cases hon : out = -1
          · subst hon
            have dn : decide ((0 : Int) ≤ -1) = false := by decide
            have s0 : sumL 16 (L1.map bsOf) = noughts 16 := by
              rw [Q2.out]
              exact writes_none HOK.out (allLen_of HL2.out) HLM.out HL3.out HD.out
            have s1' : (L1.map bsOf)[col]? = some (bsOf d) := by
              rw [Q2.out]
              exact writes_col HOK.out (by omega) HLM.out
            obtain ⟨Z, hZ⟩ : ∃ Z, (⟨(List.replicate 16 0).toArray⟩ : ByteArray) = Z := ⟨_, rfl⟩
            have hcM : (col : Int) < M := by omega
            have CA := Lib.hid (ref_all_val (some ⟨gl, 0, none⟩) M cl L1 wr (by omega) (HRW1.out.reads (by rw [List.length_map, Q1.out])) Q3.out (by intro h; have := Q1.out; rw [h] at this; simp at this; omega) Z (by rw [s0]; exact hZ))
            have mc : wr.cell? ⟨gl, col, none⟩ = some (.string d) := HRW1.out.cell (text_at s1')
            go_wp2_with fail
            refine CA.out.mono ?_
            rintro e w20 ⟨rfl, b20⟩
            replace mc := keep_cell b20 mc
            have B20 := below_call HBR.out b20
            clear b20 CA
            go_wp2_with (refine wpList_mk 41 5 (.int .u8 0) 1 rfl _ _ rfl Try.underlying41 info_u8 rfl (n := 16) rfl rfl (by omega) (by unfold maxLen; omega) ?_; intro w21 hlt21 b21 hrow21 hown21; have hconv := run_row_string (P := Try.prog) (l := List.replicate 16 0) 41 9 5 (by rw [List.map_replicate]; exact hrow21) (List.length_replicate) Try.underlying41 Try.underlying5 Try.underlying9 16; rw [hZ] at hconv; have mc2 := keep_cell b21 mc; have B21 := below_call B20 b21; clear hrow21 hown21 b21)
            go_ret
            exact ⟨rfl, B21⟩
          · obtain ⟨o, rfl⟩ : ∃ o : Nat, out = o := ⟨out.toNat, by omega⟩
            have dn : decide ((0 : Int) ≤ (o : Int)) = true := by simp
            have hoM : o < M := by omega
            have hoM' : (o : Int) < M := by omega
            obtain ⟨hgs, t0, t1⟩ := G8.out
            have k0 : wr.cell? ⟨g, 0, none⟩ = some (.int .i64 (M : Int)) := (HKB.out.2 ⟨g, 0, none⟩ hgs HNEG.out).trans t0
            have hgw : g < wr.heap.size := Nat.lt_of_lt_of_le hgs HKB.out.1
            have K0 := Lib.hid k0
            clear t0 t1 hgs k0
            generalize wr = w9 at *
            go_wp2
            go_loopw [21, 22] (fun v c wr => ∃ (k : Nat) (Ar : Option Addr) (nr cr : Nat), k ≤ M ∧ c = .int .i64 (k : Int) ∧ v = .slice Ar nr cr ∧ nr = (butL L1 o k).length ∧ Own wr w9.heap.size 9 Ar nr cr ((butL L1 o k).map .string) ∧ Below w9.heap.size w9 wr) (fun _ c _ => M - (intOf c).toNat)
            case atStart => exact ⟨0, none, 0, 0, Nat.zero_le _, rfl, rfl, by simp [butL], by simp only [butL, List.take_zero, List.take_nil, List.drop_nil, List.append_nil, List.map_nil]; exact Own.nil _ _ _, Below.refl _ _⟩
            case round =>
              obtain ⟨k, Ar, nr, cr, hk, rfl, rfl, hnr, hown, hbl⟩ := hrel
              have k0 : wr.cell? ⟨g, 0, none⟩ = some (.int .i64 (M : Int)) := (hbl.cell (by exact hgw)).trans K0.out
              have hrow9 := HRW1.out.below hbl HRW1.out.lt
              have HR9 := Lib.hid hrow9
              have HOWN := Lib.hid hown
              have HNR := Lib.hid hnr
              have HBL := Lib.hid hbl
              have hnr6 : nr ≤ 6 := by
                rw [hnr]
                have := butL_le L1 o k
                rw [Q1.out] at this
                omega
              clear hrow9 hown hnr hbl
              by_cases hkM : k < M
              · have dk : decide ((k : Int) < M) = true := by simp; omega
                have dk' : decide (k < M) = true := by simp; omega
                have kM : (k : Int) < M := by omega
                by_cases hko : k = o
                · have hne : ((k : Int) != (o : Int)) = false := by rw [hko]; simp
                  have hb := butL_same L1 o
                  have HB := Lib.hid hb
                  have HKO := Lib.hid hko
                  clear hko hb
                  go_wp2
                  go_roundw
                  case rel => exact ⟨k + 1, Ar, nr, cr, by omega, by go_num, rfl, by (obtain rfl := HKO.out; rw [HB.out]; exact HNR.out), by (obtain rfl := HKO.out; rw [HB.out]; exact HOWN.out), HBL.out⟩
                  case measure => simp [intOf]; omega
                · have hne : ((k : Int) != (o : Int)) = true := by simp; omega
                  have hkl : k < L1.length := by rw [Q1.out]; exact hkM
                  have hb := butL_more L1 o k hkl hko
                  have hcell := HR9.out.cell (j := k) (u := .string L1[k]) (by rw [List.getElem?_map, List.getElem?_eq_getElem hkl]; rfl)
                  generalize L1[k] = y at hb hcell
                  have HB := Lib.hid hb
                  have hw9 : w9.heap.size ≤ wr.heap.size := HBL.out.size
                  clear hko hb hkl
                  go_wp2_with (at_builtin; refine wpList_app (N := nr + 1) 24 9 16 (.string ⟨#[]⟩) rfl _ _ rfl Try.underlying24 info_str rfl rfl (HOWN.out.later ((Below.refl _ _).alloc (Nat.le_refl _) _)) rfl (reads_lit _ [_] _ 1 rfl) (by simp [Value.oneCell']) rfl (by unfold maxLen; omega) (by omega) (by simp; omega) ?_; intro A6 c6 w11 hown6 hgr6 hbd6)
                  go_roundw
                  case rel => exact ⟨k + 1, A6, nr + 1, c6, by omega, by go_num, rfl, by rw [HB.out, List.length_append, ← HNR.out]; rfl, by
                    rw [HB.out, List.map_append]
                    exact hown6, (HBL.out.alloc HBL.out.size _).trans hbd6⟩
                  case measure => simp [intOf]; omega
              · obtain rfl : k = M := by omega
                have dk : decide ((k : Int) < (k : Int)) = false := by simp
                have hbe : butL L1 o k = L1.take o ++ L1.drop (o + 1) := by
                  have e : L1.take k = L1 := List.take_of_length_le (by rw [Q1.out]; exact Nat.le_refl _)
                  unfold butL
                  rw [e]
                obtain ⟨R, hR⟩ : ∃ R, butL L1 o k = R := ⟨_, rfl⟩
                have hRsz : ∀ s ∈ R, s.size = 16 := fun s hs => by
                  rw [← hR, hbe] at hs
                  rcases List.mem_append.1 hs with h | h
                  · exact Q3.out s (List.mem_of_mem_take h)
                  · exact Q3.out s (List.mem_of_mem_drop h)
                have hRl : R.length = k - 1 := by
                  rw [← hR, hbe, List.length_append, List.length_take, List.length_drop, Q1.out]
                  omega
                have hn0 := HNR.out
                have ho0 := HOWN.out
                rw [hR] at hn0 ho0
                obtain ⟨P, hP⟩ : ∃ P : ByteArray, (⟨(sumL 16 (R.map bsOf)).toArray⟩ : ByteArray) = P := ⟨_, rfl⟩
                have hPb : bsOf P = sumL 16 (R.map bsOf) := by rw [← hP]
                have hPs : P.size = 16 := by rw [← hP]; exact sumL_len (allLen_of hRsz)
                have CR := Lib.hid (ref_all_val Ar nr cr R wr (by omega) ho0.reads hRsz (by intro h; rw [h] at hRl; simp at hRl; omega) P hP)
                have hRm : R.map bsOf = (L1.map bsOf).take o ++ (L1.map bsOf).drop (o + 1) := by rw [← hR, hbe, List.map_append, List.map_take, List.map_drop]
                have hF0 : sumL 16 ((L1.set o P).map bsOf) = noughts 16 := by
                  rw [List.map_set, hPb, hRm]
                  exact sum_fill (allLen_of Q3.out) o (by rw [List.length_map, Q1.out]; exact hoM)
                have hFc : ((L1.set o P).map bsOf)[col]? = some (bsOf d) := by
                  rw [List.map_set]
                  by_cases hoc : o = col
                  · subst hoc
                    rw [List.getElem?_set_self (by rw [List.length_map, Q1.out]; exact hoM), hPb, hRm, Q2.out]
                    have h1 := writes_out HOK.out (allLen_of HL2.out) HLM.out (d := bsOf d) HD.out
                    simp only at h1
                    rw [h1]
                  · rw [List.getElem?_set_ne hoc, Q2.out]
                    exact writes_col HOK.out (by omega) HLM.out
                have hFz : ∀ s ∈ L1.set o P, s.size = 16 := fun s hs => by
                  rcases List.mem_or_eq_of_mem_set hs with h | h
                  · exact Q3.out s h
                  · rw [h]; exact hPs
                have hFl : (L1.set o P).length = k := by rw [List.length_set, Q1.out]
                obtain ⟨LF, hLF⟩ : ∃ LF, L1.set o P = LF := ⟨_, rfl⟩
                rw [hLF] at hF0 hFc hFz hFl
                have hset : (L1.map Value.string).set o (.string P) = LF.map .string := by rw [← hLF, List.map_set]
                have HSET := Lib.hid hset
                have F0 := Lib.hid hF0
                have FC := Lib.hid hFc
                have FZ := Lib.hid hFz
                have FL := Lib.hid hFl
                have hglw : gl < wr.heap.size := HR9.out.lt
                clear hbe hR hRsz hRl hn0 ho0 hP hPb hPs hRm hF0 hFc hFz hFl hLF hset HNR HOWN
                go_wp2_with fail
                refine CR.out.mono ?_
                rintro e w12 ⟨rfl, b12⟩
                have hr12 := HR9.out.below b12 hglw
                have hol : o < (L1.map Value.string).length := by rw [List.length_map, Q1.out]; exact hoM
                have m0 : w12.cell? ⟨gl, o, none⟩ = some ((L1.map Value.string)[o]'hol) := hr12.cell (List.getElem?_eq_getElem hol)
                have m1 := hr12.free hol
                have HR12 := Lib.hid hr12
                have hb12 : Below w.heap.size w w12 := below_call (HBR.out.trans (HBL.out.mono HBR.out.size)) b12
                have HB12 := Lib.hid hb12
                generalize (L1.map Value.string)[o]'hol = old at m0
                clear hr12 hol b12 hb12 CR
                have hrf : Row (w12.setCell ⟨gl, o, none⟩ (.string P)) gl (LF.map .string) := by
                  rw [← HSET.out]
                  exact HR12.out.set_ o (.string P)
                have HRF := Lib.hid hrf
                have BF : Below w.heap.size w (w12.setCell ⟨gl, o, none⟩ (.string P)) := HB12.out.setCell (p := ⟨gl, o, none⟩) HGLB.out _
                obtain ⟨Z, hZ⟩ : ∃ Z, (⟨(List.replicate 16 0).toArray⟩ : ByteArray) = Z := ⟨_, rfl⟩
                have hcM : (col : Int) < k := by omega
                clear hrf
                have CA := Lib.hid (ref_all_val (some ⟨gl, 0, none⟩) k cl LF (w12.setCell ⟨gl, o, none⟩ (.string P)) (by omega) (HRF.out.reads (by rw [List.length_map, FL.out])) FZ.out (by intro h; have := FL.out; rw [h] at this; simp at this; omega) Z (by rw [F0.out]; exact hZ))
                have mc : (w12.setCell ⟨gl, o, none⟩ (.string P)).cell? ⟨gl, col, none⟩ = some (.string d) := HRF.out.cell (text_at FC.out)
                go_wp2_with fail
                refine CA.out.mono ?_
                rintro e w20 ⟨rfl, b20⟩
                replace mc := keep_cell b20 mc
                have B20 := below_call BF b20
                clear b20 CA
                go_wp2_with (refine wpList_mk 41 5 (.int .u8 0) 1 rfl _ _ rfl Try.underlying41 info_u8 rfl (n := 16) rfl rfl (by omega) (by unfold maxLen; omega) ?_; intro w21 hlt21 b21 hrow21 hown21; have hconv := run_row_string (P := Try.prog) (l := List.replicate 16 0) 41 9 5 (by rw [List.map_replicate]; exact hrow21) (List.length_replicate) Try.underlying41 Try.underlying5 Try.underlying9 16; rw [hZ] at hconv; have mc2 := keep_cell b21 mc; have B21 := below_call B20 b21; clear hrow21 hown21 b21)
                go_ret
                exact ⟨rfl, B21⟩
end Go.Proofs.Ythckkmoafobmnaa

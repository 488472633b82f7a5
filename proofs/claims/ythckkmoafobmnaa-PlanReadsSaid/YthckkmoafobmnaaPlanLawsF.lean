/- The statements of layer 6, walked: PlanTwice's function literal. -/
import Derived.Test.YthckkmoafobmnaaPlanLawsE
namespace Go.Proofs.Ythckkmoafobmnaa
open Go.RowKit Go.ChangeShapes Go.WideShapes

/-- a stripe behind a write -/
def wroteL (M : Nat) (L : List ByteArray) (col : Nat) (d : ByteArray) : List ByteArray := (L.set col d).set (M - 1) ⟨(sumL 16 [bsOf (L.getD (M - 1) default), bsOf (L.getD col default), bsOf d]).toArray⟩

set_option maxRecDepth 100000 in
set_option maxHeartbeats 6400000 in
theorem write06 (M col : Nat) (S : Int) (A : Option Addr) (c g : Nat) (L : List ByteArray) (d : ByteArray) (w : World) (h3 : 3 ≤ M) (h6 : M ≤ 6) (hcol : col < M - 1) (hs : 1 ≤ S ∧ S ≤ 8) (hg : Geo w g (M : Int) S) (hr : Reads w w.heap.size A M (L.map .string)) (hz : ∀ s ∈ L, s.size = 16) (hd : d.size = 16) :
    Calls Try.prog 27 #[.slice A M c, .int .i64 col, .string d, .pointer (some ⟨g, 0, none⟩)] w fun e w' => ∃ g' c', e = .returned (.slice (some ⟨g', 0, none⟩) M c') ∧ Row w' g' ((wroteL M L col d).map .string) ∧ Below w.heap.size w w' := by
  have hok : ColsOk M col (-1) := ⟨h3, h6, hcol, by omega, by omega⟩
  have hL : L.length = M := by simpa using hr.len
  have hu : updW M col (-1) = [col, M - 1] := by
    unfold updW
    rw [if_neg (by omega), if_neg (by omega)]
  have ha : updR M col (-1) = [col, M - 1] := by
    unfold updR
    rw [if_neg (by omega), if_neg (by omega)]
  obtain ⟨X, hX⟩ : ∃ X, sumL 16 [bsOf (L.getD (M - 1) default), bsOf (L.getD col default), bsOf d] = X := ⟨_, rfl⟩
  have hl : planW M col (-1) (namedL (L.map bsOf) (updR M col (-1))) (bsOf d) = [bsOf d, X] := by
    rw [← hX, ha]
    unfold planW
    rw [if_neg (by omega), if_neg (by omega)]
    have hc1 : col < L.length := by omega
    have hc2 : M - 1 < L.length := by omega
    simp [namedL, List.getElem?_eq_getElem hc1, List.getElem?_eq_getElem hc2]
  have C1 := Lib.hid (fun w' => plan_update_val M col S (-1) w' hok hs [col, M - 1] [col, M - 1] ha hu M col rfl rfl)
  have HG := Lib.hid hg
  have HR := Lib.hid hr
  have HZ := Lib.hid hz
  have HD := Lib.hid hd
  have HL := Lib.hid hL
  have HLW := Lib.hid hl
  obtain ⟨x, hx⟩ : ∃ x : ByteArray, (⟨X.toArray⟩ : ByteArray) = x := ⟨_, rfl⟩
  have hst : [bsOf d, X].map textV = [d, x].map .string := by
    rw [← hx]
    rfl
  have hfin : setK L [col, M - 1] [d, x] 2 = wroteL M L col d := by
    rw [wroteL, hX, hx]
    rfl
  have HST := Lib.hid hst
  have HFIN := Lib.hid hfin
  have HA := Lib.hid ha
  clear hr hz hd hL hl ha hu hx hst hfin hX
  obtain ⟨hg1, k0, k1⟩ := hg
  go_enter Try.func27, Try.ntmps27
  go_wp2_with fail
  clear k0 k1
  refine (C1.out _).mono ?_
  rintro e w1 ⟨b1, A1, c1, A2, c2, rfl, r1, r2, fr1, fr2⟩
  have G1 := Lib.hid (HG.out.later b1)
  have HR1 := Lib.hid ((HR.out.below b1).more b1.size)
  have R1 := Lib.hid r1
  have R2 := Lib.hid r2
  have B1 := Lib.hid b1
  clear r1 r2 b1 C1 HG HR
  obtain ⟨hg1', k0, k1⟩ := G1.out
  have dlen : ((M : Int) != (M : Int)) = false := by simp
  have CN := Lib.hid (named06 A A1 M c 2 c1 L [col, M - 1] w1.drew HR1.out R1.out (by omega) (by omega) (by intro x hx; simp at hx; omega))
  have CM := Lib.hid (fun A3 c3 w7 (h : Own w7 w1.drew.heap.size 9 A3 2 c3 ((namedL L [col, M - 1]).map .string)) => plan_made_is M col S (-1) A3 2 c3 L d w7 hok hs (by rw [HA.out]; exact h.reads) h.cap HL.out HZ.out HD.out [bsOf d, X] HLW.out)
  go_wp2
  have b10 := B1.out.drew
  go_region_held3 (fun w' => w'.cell? ⟨g, 0, none⟩ = some (.int .i64 (M : Int)) ∧ w'.cell? ⟨g, 1, none⟩ = some (.int .i64 S))
    (first
      | exact ⟨j0, j1⟩
      | exact ⟨i0, i1⟩
      | exact ⟨k0, k1⟩)
    (first
      | ((go_at_call 19; with_reducible refine CN.out.mono ?_); rintro e w7 ⟨A3, c3, rfl, o7, b7⟩
         have i0 : w7.cell? ⟨g, 0, none⟩ = some (.int .i64 (M : Int)) := keep_cell b7 (by assumption)
         have i1 : w7.cell? ⟨g, 1, none⟩ = some (.int .i64 S) := keep_cell b7 (by assumption)
         have b11 := below_call b10 b7
         have z7 : Below w1.heap.size w1 w7 := (Below.refl _ _).drew.trans b7)
      | ((go_at_call 22; with_reducible refine (CM.out _ _ _ o7).mono ?_); rintro e w8 ⟨b8, A4, c4, rfl, r8, fr8⟩
         have j0 : w8.cell? ⟨g, 0, none⟩ = some (.int .i64 (M : Int)) := keep_cell b8 (by assumption)
         have j1 : w8.cell? ⟨g, 1, none⟩ = some (.int .i64 S) := keep_cell b8 (by assumption)
         have b12 := below_call b11 b8
         have z8 := z7.trans (b8.mono z7.size)))
  have hr2 := (R2.out.below z8).more z8.size
  have hrl := (HR1.out.below z8).more z8.size
  rw [HST.out] at r8
  obtain ⟨g2, o2, rfl, hg2, hc2⟩ := hr2.2 (by simp)
  obtain ⟨g4, o4, rfl, hg4, hc4⟩ := r8.2 (by simp)
  have HRL := Lib.hid hrl
  have HR2 := Lib.hid hr2
  have HR4 := Lib.hid r8
  have B8 := Lib.hid b12
  have hlr : (L.map Value.string).length = M := by rw [List.length_map, HL.out]
  have HLR := Lib.hid hlr
  clear R1 R2 HR1 CN CM b10 b11 b12 z7 z8 b7 b8 k0 k1 i0 i1 j0 j1 o7 r8 B1 hr2 hrl hlr fr1 fr2 fr8
  go_wp2_with (at_builtin; refine wpList_app (N := M) 24 9 16 (.string ⟨#[]⟩) rfl _ _ rfl Try.underlying24 info_str rfl rfl (Own.nil _ w8.heap.size _) rfl HRL.out (strs_oneCell _) (by omega) (by unfold maxLen; omega) (by omega) (Nat.le_refl _) ?_; intro A5 c5 w9 hown5 hgr5 hbd5)
  rw [List.nil_append] at hown5
  obtain ⟨g9, rfl, hg9, hrow9⟩ := hown5.row (by omega)
  have B9 := below_call B8.out hbd5
  have hne2 : g2 ≠ g9 := by omega
  have hne4 : g4 ≠ g9 := by omega
  have HR29 := Lib.hid (HR2.out.below hbd5)
  have HR49 := Lib.hid (HR4.out.below hbd5)
  have HW89 := Lib.hid hbd5.size
  have HROW := Lib.hid hrow9
  have HB9 := Lib.hid B9
  have HGB : Hid (w.heap.size ≤ g9) := Nat.le_trans B8.out.size hg9
  have HNE2 := Lib.hid hne2
  have HNE4 := Lib.hid hne4
  clear hown5 hgr5 hbd5 hrow9 B9 hne2 hne4 hg9 HR2 HR4 HRL B8 hg2 hc2 hg4 hc4
  go_loopw [14] (fun i wr => ∃ (k : Nat), k ≤ 2 ∧ i = .int .i64 (k : Int) ∧ Row wr g9 ((setK L [col, M - 1] [d, x] k).map .string) ∧ KeepBut g9 w9 wr ∧ Below w.heap.size w wr) (fun i _ => 2 - (intOf i).toNat)
  case atStart => exact ⟨0, by omega, rfl, HROW.out, KeepBut.refl _ _, HB9.out⟩
  case round =>
    obtain ⟨k, hk, rfl, hrw, hkb, hbr⟩ := hrel
    have HRW := Lib.hid hrw
    have HKB := Lib.hid hkb
    have HBR := Lib.hid hbr
    clear hrw hkb hbr
    by_cases hk2 : k < 2
    · have dk : decide ((k : Int) < 2) = true := by simp; omega
      have dk' : decide (k < 2) = true := by simp; omega
      have k2 : (k : Int) < 2 := by omega
      obtain ⟨b3, o3, t, e3, hg3, hf3, x3⟩ := natV_at (reads_but HR29.out HW89.out (fun b o h => by cases h; exact HNE2.out) HKB.out) hk2
      cases e3
      have htM : t < M := by
        have := List.mem_of_getElem? hf3
        simp at this
        omega
      obtain ⟨b5, o5, uv, e5, hg5, hf5, y5⟩ := (reads_but HR49.out HW89.out (fun b o h => by cases h; exact HNE4.out) HKB.out).at_ hk2
      cases e5
      rw [List.getElem?_map] at hf5
      obtain ⟨y, hy, rfl⟩ := Option.map_eq_some_iff.1 hf5
      have ne2 : decide ((t : Int) < 0) = false := by simp
      have ne3 : decide ((M : Int) ≤ (t : Int)) = false := by simp; omega
      have ne3' : decide (M ≤ t) = false := by simp; omega
      have tM : (t : Int) < M := by omega
      have hxl : t < ((setK L [col, M - 1] [d, x] k).map Value.string).length := by rw [List.length_map, setK_length, HL.out]; exact htM
      have hnext : ((setK L [col, M - 1] [d, x] k).map Value.string).set t (.string y) = (setK L [col, M - 1] [d, x] (k + 1)).map Value.string := by
        rw [setK, List.getD_eq_getElem?_getD, List.getD_eq_getElem?_getD, hf3, hy, Option.getD_some, Option.getD_some, List.map_set]
      have m0 : _ = some (((setK L [col, M - 1] [d, x] k).map Value.string)[t]'hxl) := HRW.out.cell (List.getElem?_eq_getElem hxl)
      have m1 := HRW.out.free hxl
      have HNX := Lib.hid hnext
      generalize ((setK L [col, M - 1] [d, x] k).map Value.string)[t]'hxl = old at m0
      clear hnext hf3 hf5 hy hxl
      go_wp2
      refine wp_region_still_tail 10 (by kernel_rfl) (by kernel_rfl) ?_
      simp only [List.take_succ_cons, List.take_zero, List.drop_succ_cons, List.drop_zero]
      repeat still_step
      refine wpStill_nil ?_
      go_wp2
      go_roundw
      case rel =>
        refine ⟨k + 1, by omega, by go_num, ?_, (HKB.out.setCell t (.string y)).drew, ?_⟩
        · rw [← HNX.out]
          exact (HRW.out.set_ t (.string y)).drew
        · exact (HBR.out.setCell (p := ⟨g9, t, none⟩) HGB.out _).drew
      case measure => simp [intOf]; omega
    · obtain rfl : k = 2 := by omega
      have dk : decide (((2 : Nat) : Int) < 2) = false := by decide
      have hrw := HRW.out
      rw [HFIN.out] at hrw
      have HRF := Lib.hid hrw
      clear hrw
      go_wp2
      go_ret
      exact ⟨g9, c5, rfl, HRF.out, HBR.out⟩
end Go.Proofs.Ythckkmoafobmnaa

/- Write and Read. -/
import Derived.Test.YtoalckcpahnpmaaDiskAct
import Derived.StillTailTactics
namespace Go.Proofs.Ytoalckcpahnpmaa
open Go.RowKit Go.ChangeShapes Go.WideShapes
open Go.ChangeMaps (setBlock heap_setBlock_same heap_setBlock_other)

theorem disk_write_any (S : DiskSt) (a : Addr) (k : Int) (s : ByteArray) (hf : S.Few) (hk : (Lit.int .i64 k).wf = true) :
    Acts Try.prog 13 #[.pointer (some a), .int .i64 k, .string s] (.returned (.int .i64 (S.writeE k s))) (Disk S a) (Disk (S.writeA k s) a) := by
  intro w F h hlt
  have C := disk_act S a hf w F h hlt
  clear h
  show Calls _ _ _ _ fun e w' => e = _ ∧ Done (S.writeA k s) a F w w'
  unfold DiskSt.writeE DiskSt.writeA
  cases hfl : S.fails with
  | true =>
    rw [hfl] at C
    have HC := Lib.hid C
    clear C hfl
    go_enter Try.func13, Try.ntmps13
    go_wp2_with fail
    refine (HC.out).mono ?_
    rintro e w1 ⟨rfl, Y0⟩
    have Y := Lib.hid Y0
    clear Y0
    go_wp2
    go_ret
    exact ⟨rfl, Y.out⟩
  | false =>
    rw [hfl] at C
    have HC := Lib.hid C
    clear C
    have eN : S.act.n = S.n := DiskSt.n_act S
    have eH : S.act.has k = S.has k := by
      unfold DiskSt.has
      rw [eN]
    by_cases hfit : S.fits k s = true
    · have h3 : 0 ≤ k ∧ k < S.n ∧ s.size = 64 := by
        unfold DiskSt.fits at hfit
        simpa [and_assoc] using hfit
      obtain ⟨m, rfl⟩ : ∃ m : Nat, k = (m : Int) := ⟨k.toNat, by omega⟩
      have eW : (if (false : Bool) = true then S.act else if S.fits (m : Int) s = true then S.write ((m : Int)).toNat s else S.act) = { S.act with last := updF S.last m (some s) } := by
        rw [if_neg (by decide), if_pos hfit]
        show S.write m s = _
        unfold DiskSt.write
        rw [hfl]
        rfl
      rw [eW]
      rw [if_neg (by decide), if_pos hfit]
      have hm : m < S.n := by omega
      have hh : S.has (m : Int) = true := by
        unfold DiskSt.has
        simp
        omega
      have d3 : ((s.size : Int) == 64) = true := by simp; omega
      have hs64 := h3.2.2
      clear hfit h3 eW hfl
      go_enter Try.func13, Try.ntmps13
      go_wp2_with fail
      refine (HC.out).mono ?_
      rintro e w1 ⟨rfl, ap, F', D1, hF'⟩
      have C2 := Lib.hid (disk_has S.act a (m : Int) w1 ⟨F', D1⟩ hk)
      rw [eH, hh] at C2
      have Y1 := Lib.hid (And.intro ap (And.intro D1 hF'))
      clear ap D1 hF'
      go_wp2_with fail
      refine (C2.out).mono ?_
      rintro e w2 ⟨rfl, rfl⟩
      have hcp := run_copy64 w2 hs64
      go_wp2_with fail
      obtain ⟨b, gs, gm, cs, left, rfl, hd, R0, hF⟩ := Y1.out.2.1
      have R := (R0.alloc (.cells (secV s).toArray 55)).drew
      have AP := (Y1.out.1.new (Below.alloc (Below.refl _ _) Y1.out.1.size (.cells (secV s).toArray 55))).drew
      have hld : (w2.alloc (.cells (secV s).toArray 55)).drew.rangeAt w2.heap.size 0 (secV s) := fun j v hj => by
        rw [Nat.zero_add]
        exact (row_cells w2 (secV s) 55).drew.cell hj
      obtain ⟨W, hW⟩ : ∃ W, (w2.alloc (.cells (secV s).toArray 55)).drew = W := ⟨_, rfl⟩
      rw [hW] at R AP hld
      obtain ⟨es, clock, hb, M⟩ := R.r2
      have hmap := run_upd M hb (k := m) (by have := R.small.1; rw [eN] at this; omega) s
      obtain ⟨es2, clock2, hup, M2⟩ := hmap
      have c1 := R.c1
      have HR := Lib.hid R
      have HA := Lib.hid AP
      have HB := Lib.hid hb
      have HM := Lib.hid M2
      have HD := Lib.hid hd
      have HF := Lib.hid hF
      have HL := Lib.hid hlt
      have HL2 := Lib.hid hld
      have hup2 : (Instr.mapUpdate 51 (.map (some gm)) (.int .i64 (m : Int)) (.agg (secV s).toArray)).run Try.prog W = .ok () (setBlock W gm (.map es2 clock2)) := hup
      clear hld hup hcp R AP hb M M2 hd hF hlt R0 d3 hh HC C2
      have HW := Lib.hid hW
      clear hW
      refine wp_region_still_tail 6 (by kernel_rfl) (by kernel_rfl) ?_
      simp only [List.take_succ_cons, List.take_zero, List.drop_succ_cons, List.drop_zero]
      rw [show { w2.alloc (.cells (secV s).toArray 55) with drawn := (w2.alloc (.cells (secV s).toArray 55)).drawn + 1 } = W from HW.out]
      iterate 5 still_step
      refine wpStill_step (fun K hK => ?_)
      refine still_load_mid rfl _ _ rfl w2.heap.size 0 rfl (secV s) _ HL2.out Try.underlying55 rfl (by rw [zero_sec.2, secV_len]) ?_
      refine hK _ ?_
      clear hK K
      refine wpStill_nil ?_
      have hk2 : ∀ q t, updF S.act.last m (some s) q = some t → q < S.act.n := fun q t hq => by
        unfold updF at hq
        split at hq
        · rename_i e
          rw [e, eN]
          exact hm
        · exact HR.out.keys q t hq
      have Y := Lib.hid (show Done { S.act with last := updF S.act.last m (some s) } ⟨b, 0, none⟩ F w (setBlock W gm (.map es2 clock2)) from
        ⟨HA.out.trans (apart_block (F := F') HB.out _ ((HF.out gm).2 (Or.inr (Or.inr rfl)))) (fun j h => (Y1.out.2.2 j h).2), F', ⟨b, gs, gm, cs, left, rfl, HD.out, HR.out.remap HD.out HB.out HM.out hk2, HF.out⟩,
          fun q hq => ⟨by
            rw [setBlock_size]
            rcases (HF.out q).1 hq with rfl | rfl | rfl
            · exact HR.out.r0.lt
            · exact HR.out.r1.lt
            · exact HR.out.r2.lt, (Y1.out.2.2 q hq).2⟩⟩)
      rw [act_last] at Y
      clear hk2 HR HA HB HM HD HF HL HL2 Y1 eN eH
      go_wp2
      go_ret
      exact ⟨rfl, Y.out⟩
    · have hfit2 : S.fits k s = false := by simpa using hfit
      rw [hfit2]
      rw [if_neg (by decide), if_neg (by decide), if_neg (by decide), if_neg (by decide)]
      cases hh : S.has k with
      | false =>
        clear hfit hfit2 hfl
        go_enter Try.func13, Try.ntmps13
        go_wp2_with fail
        refine (HC.out).mono ?_
        rintro e w1 ⟨rfl, ap, F', D1, hF'⟩
        have C2 := Lib.hid (disk_has S.act a k w1 ⟨F', D1⟩ hk)
        rw [eH, hh] at C2
        have Y1 := Lib.hid (show Done S.act a F w w1 from ⟨ap, F', D1, hF'⟩)
        clear ap D1 hF'
        go_wp2_with fail
        refine (C2.out).mono ?_
        rintro e w2 ⟨rfl, rfl⟩
        go_wp2
        go_ret
        exact ⟨rfl, Y1.out⟩
      | true =>
        have d3 : ((s.size : Int) == 64) = false := by
          unfold DiskSt.fits at hfit
          unfold DiskSt.has at hh
          simp only [Bool.and_eq_true, decide_eq_true_eq] at hfit hh
          simp
          omega
        clear hfit hfit2 hfl
        go_enter Try.func13, Try.ntmps13
        go_wp2_with fail
        refine (HC.out).mono ?_
        rintro e w1 ⟨rfl, ap, F', D1, hF'⟩
        have C2 := Lib.hid (disk_has S.act a k w1 ⟨F', D1⟩ hk)
        rw [eH, hh] at C2
        have Y1 := Lib.hid (show Done S.act a F w w1 from ⟨ap, F', D1, hF'⟩)
        clear ap D1 hF'
        go_wp2_with fail
        refine (C2.out).mono ?_
        rintro e w2 ⟨rfl, rfl⟩
        go_wp2
        go_ret
        exact ⟨rfl, Y1.out⟩
theorem disk_read_any (S : DiskSt) (a : Addr) (k : Int) (w : World) (h : ∃ F, Disk S a w F) (hk : (Lit.int .i64 k).wf = true) (hw : S.Whole) :
    Calls Try.prog 17 #[.pointer (some a), .int .i64 k] w fun e w' => e = .returned (.tuple #[.string (S.readT k), .int .i64 (S.readE k)]) ∧ Below w.heap.size w w' := by
  have C := disk_has S a k w h hk
  obtain ⟨F, b, gs, gm, cs, left, rfl, hd, R, hF⟩ := h
  have b0 := Below.refl w.heap.size w
  have c4 := R.c4
  unfold DiskSt.readT DiskSt.readE
  cases hoff : S.off with
  | true =>
    rw [hoff] at c4
    clear R hoff C
    go_enter Try.func17, Try.ntmps17
    go_wp2
    go_ret2
    exact ⟨rfl, b0⟩
  | false =>
    rw [hoff] at c4
    cases hh : S.has k with
    | false =>
      rw [hh] at C
      have HC := Lib.hid C
      clear R hoff C
      go_enter Try.func17, Try.ntmps17
      go_wp2_with fail
      refine (HC.out).mono ?_
      rintro e w2 ⟨rfl, rfl⟩
      go_wp2
      go_ret2
      exact ⟨rfl, b0⟩
    | true =>
      rw [hh] at C
      have hm0 : 0 ≤ k ∧ k < S.n := by
        unfold DiskSt.has at hh
        simpa using hh
      obtain ⟨m, rfl⟩ : ∃ m : Nat, k = (m : Int) := ⟨k.toNat, by omega⟩
      have hm : m < S.n := by omega
      have im : (m : Int) < S.n := by omega
      have c0 := R.c0
      have c1 := R.c1
      obtain ⟨es, clock, hb, M⟩ := R.r2
      have hlk := run_look M hb (k := m) (by have := R.small.1; omega)
      rw [show ((m : Int)).toNat = m from rfl]
      rw [if_neg (by decide), if_pos rfl, if_neg (by decide), if_pos rfl]
      have hsz := DiskSt.read_size hw m
      have hrow := R.r1.at_ m hm
      cases hl : S.last m with
      | some u =>
        have er : S.read m = u := by
          unfold DiskSt.read
          rw [hl]
          rfl
        rw [er] at hsz ⊢
        rw [hl] at hlk
        replace hlk : (Instr.lookup 51 (.map (some gm)) (.int .i64 (m : Int)) true).run Try.prog w = .ok (.tuple #[.agg (secV u).toArray, .bool true]) w := hlk
        have hcv := run_secstr w hsz
        have hst := run_secstore w u
        have b1 := (Below.refl w.heap.size w).alloc (Nat.le_refl _) (.cells (secV u).toArray 55)
        show Calls _ _ _ _ fun e w' => e = .returned (.tuple #[.string u, .int .i64 0]) ∧ _
        have HC := Lib.hid C
        clear R hoff C hh hm0 hm im M hb hl er hrow hF hd
        go_enter Try.func17, Try.ntmps17
        go_wp2_with fail
        refine (HC.out).mono ?_
        rintro e w2 ⟨rfl, rfl⟩
        go_wp2
        go_ret2
        exact ⟨rfl, b1⟩
      | none =>
        have er : S.read m = S.sure m := by
          unfold DiskSt.read
          rw [hl]
          rfl
        rw [er] at hsz ⊢
        rw [hl] at hlk
        replace hlk : (Instr.lookup 51 (.map (some gm)) (.int .i64 (m : Int)) true).run Try.prog w = .ok (.tuple #[.agg (secV noughtB).toArray, .bool false]) w := hlk
        have hcv := run_secstr w hsz
        have hst := run_secstore w noughtB
        have hst2 := run_secstore2 w (S.sure m)
        have b1 := (Below.refl w.heap.size w).alloc (Nat.le_refl _) (.cells (secV (S.sure m)).toArray 55)
        show Calls _ _ _ _ fun e w' => e = .returned (.tuple #[.string (S.sure m), .int .i64 0]) ∧ _
        have HC := Lib.hid C
        have HR := Lib.hid (World.rangeAt_alloc hrow (.cells (secV noughtB).toArray 55))
        have RA := R.alloc (.cells (secV noughtB).toArray 55)
        have c0' := RA.c0
        clear R RA hoff C hh hm0 hm M hb hl er hrow hF hd
        go_enter Try.func17, Try.ntmps17
        go_wp2_with fail
        refine (HC.out).mono ?_
        rintro e w2 ⟨rfl, rfl⟩
        go_wp2_with (refine wpList_load_mid rfl _ _ rfl gs (m * 64) rfl (secV (S.sure m)) _ HR.out Try.underlying55 rfl (by rw [zero_sec.2, secV_len]) ?_)
        go_ret2
        exact ⟨rfl, b1⟩
end Go.Proofs.Ytoalckcpahnpmaa

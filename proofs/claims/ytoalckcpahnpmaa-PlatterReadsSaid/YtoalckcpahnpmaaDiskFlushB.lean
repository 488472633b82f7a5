/- Flush, walked. -/
import Derived.Test.YtoalckcpahnpmaaDiskFlush
namespace Go.Proofs.Ytoalckcpahnpmaa
open Go.RowKit Go.ChangeShapes Go.WideShapes
open Go.ChangeMaps (setBlock heap_setBlock_same heap_setBlock_other)

set_option maxHeartbeats 800000 in
theorem disk_flush (S : DiskSt) (a : Addr) (hf : S.Few) (_hw : S.Whole) :
    Acts Try.prog 11 #[.pointer (some a)] (.returned (.int .i64 S.err)) (Disk S a) (Disk S.flush a) := by
  intro w F h hlt
  have C := disk_act S a hf w F h hlt
  clear h
  show Calls _ _ _ _ fun e w' => e = _ ∧ Done S.flush a F w w'
  unfold DiskSt.flush DiskSt.err
  cases hfl : S.fails with
  | true =>
    rw [hfl] at C
    have HC := Lib.hid C
    clear C hfl
    go_enter Try.func11, Try.ntmps11
    go_wp2_with fail
    refine (HC.out).mono ?_
    rintro e w1 ⟨rfl, Y0⟩
    have Y := Lib.hid Y0
    clear Y0
    go_wp2
    go_ret
    exact ⟨rfl, Y.out⟩
  | false =>
    rw [hfl] at C
    have HC := Lib.hid C
    clear C
    rw [if_neg (by decide), if_neg (by decide)]
    go_enter Try.func11, Try.ntmps11
    go_wp2_with fail
    refine (HC.out).mono ?_
    rintro e w2 ⟨rfl, ap, F', ⟨b, gs, gm, cs, left, rfl, hd, R0, hF⟩, hF'⟩
    obtain ⟨es, clock, hb, M⟩ := R0.r2
    have hrg := run_range hb
    have c1 := R0.c1
    have R1 := R0.alloc (.mapIter (some gm) clock #[] clock)
    have hb1 : (w2.alloc (.mapIter (some gm) clock #[] clock)).heap[gm]? = some (.map es clock) := (((Below.refl w2.heap.size w2).alloc (Nat.le_refl _) _).block gm R0.r2.lt).trans hb
    have hr1 := heap_alloc_last w2 (.mapIter (some gm) clock #[] clock)
    have hrb : w2.heap.size ≠ b ∧ w2.heap.size ≠ gs ∧ w2.heap.size ≠ gm := by
      have := R0.r0.lt
      have := R0.r1.lt
      have := R0.r2.lt
      omega
    obtain ⟨r, hr⟩ : ∃ r, w2.heap.size = r := ⟨_, rfl⟩
    obtain ⟨W, hW⟩ : ∃ W, w2.alloc (.mapIter (some gm) clock #[] clock) = W := ⟨_, rfl⟩
    have apW : Apart F' w2 W := by
      rw [← hW]
      exact (Apart.refl F' w2).new ((Below.refl w2.heap.size w2).alloc (Nat.le_refl _) _)
    rw [hW] at R1 hb1 hr1 hrg
    rw [hr] at hr1 hrg hrb
    have hold : ∀ x ∈ es.toList, x.born < clock := M.old
    have eN : S.act.n = S.n := DiskSt.n_act S
    have HS := Lib.hid R1
    have HD := Lib.hid hd
    have HF := Lib.hid hF
    have HF' := Lib.hid hF'
    have HM := Lib.hid M
    have HB := Lib.hid hb1
    have HR := Lib.hid hr1
    have HRB := Lib.hid hrb
    have HAP := Lib.hid ap
    have HAW := Lib.hid apW
    have HW := Lib.hid (And.intro hW hr)
    have HOLD := Lib.hid hold
    have HLT := Lib.hid hlt
    have HRD := Lib.hid (show S.act.read = S.read from by
      funext k
      unfold DiskSt.read
      rw [act_last]
      unfold DiskSt.act
      split <;> rfl)
    clear R0 R1 hd hF hF' M hb hb1 hr1 hrb ap apW hW hr hold hlt hfl HC hf
    go_wp2
    go_loopw [3] (fun _ wr => ∃ (seen : Array Nat) (g : Nat → ByteArray), wr.heap[r]? = some (.mapIter (some gm) clock seen clock) ∧ wr.heap[gm]? = some (.map es clock) ∧ RowsD { S.act with sure := g } b gs gm cs left wr ∧ FlushTo S.act es seen g ∧ Apart F' w2 wr) (fun _ wr => leftN wr gm r)
    case atStart => exact ⟨#[], S.act.sure, HR.out, HB.out, HS.out, FlushTo.start _ _, HAW.out⟩
    case round =>
      obtain ⟨seen, g, hr, hb, R, hfl, hap⟩ := hrel
      rcases run_next_at (P := Try.prog) wr 0 r gm clock clock seen es clock hr hb HOLD.out (Nat.le_refl _) with ⟨h0, hnx⟩ | ⟨e, he, w1, hal, hnx⟩
      · have c1' := R.c1
        have hcl := run_clearmap (P := Try.prog) (ty := 0) Try.underlying51 hb
        have ext := R.ext (S' := { S.act with sure := S.read }) rfl rfl rfl rfl (fun k _ => by
          have x := hfl.end_ HM.out h0 k
          rw [HRD.out] at x
          exact x) rfl
        have fin := ext.remap HD.out hb (Mapped.none_ clock) (fun _ _ h => by cases h)
        have apn := hap.then_ (apart_block (F := F') hb (.map #[] clock) ((HF.out gm).2 (Or.inr (Or.inr rfl))))
        have Y := Lib.hid (show Done { S.act with sure := S.read, last := fun _ => none } ⟨b, 0, none⟩ F w (setBlock wr gm (.map #[] clock)) from
          ⟨HAP.out.trans apn (fun j h => (HF'.out j h).2), F', ⟨b, gs, gm, cs, left, rfl, HD.out, fin, HF.out⟩, fun j hj => ⟨Nat.lt_of_lt_of_le (HF'.out j hj).1 apn.size, (HF'.out j hj).2⟩⟩)
        clear R hb hr hfl hap h0 ext fin apn eN
        go_wp2
        go_ret
        exact ⟨rfl, Y.out⟩
      · have hm := mem_left he
        have hlt2 := left_shrinks es seen e he
        obtain ⟨k, s, hk, hv, hs⟩ := HM.out.shape e hm.1
        have hkn : k < S.act.n := R.keys k s hs
        obtain ⟨W, hW⟩ : ∃ W, setBlock w1 r (.mapIter (some gm) clock (seen.push e.born) clock) = W := ⟨_, rfl⟩
        rw [hW] at hnx
        have hsz1 : w1.heap.size = wr.heap.size := by rcases hal with rfl | rfl <;> rfl
        have hh : ∀ j : Nat, w1.heap[j]? = wr.heap[j]? := fun j => by rcases hal with rfl | rfl <;> rfl
        have hrl : r < w1.heap.size := by
          rw [hsz1]
          exact (Array.getElem?_eq_some_iff.1 hr).1
        have hWr : W.heap[r]? = some (.mapIter (some gm) clock (seen.push e.born) clock) := by rw [← hW]; exact setBlock_here _ _ _ hrl
        have far : ∀ j : Nat, j ≠ r → W.heap[j]? = wr.heap[j]? := fun j hj => by rw [← hW, setBlock_far _ _ _ hj, hh]
        have hWs : W.heap.size = wr.heap.size := by rw [← hW, setBlock_size, hsz1]
        have hWb : W.heap[gm]? = some (.map es clock) := (far gm HRB.out.2.2.symm).trans hb
        have RW := R.same (Nat.le_of_eq hWs.symm) (far b HRB.out.1.symm) (far gs HRB.out.2.1.symm) (far gm HRB.out.2.2.symm)
        have apW : Apart F' w2 W := by
          have bel : Below w2.heap.size wr w1 := by rcases hal with rfl | rfl <;> exact ⟨rfl, rfl, rfl, Nat.le_refl _, fun _ _ => rfl⟩
          rw [← hW]
          exact hap.new (below_setBlock bel (Nat.le_of_eq HW.out.2) _)
        have hen := run_entry_at (P := Try.prog) W r gm clock seen es clock e hWr hWb hm.1 HM.out.borns
        rw [hk, hv] at hen hnx
        replace hen : (Instr.entry (.pointer (some ⟨r, 0, none⟩))).run Try.prog W = .ok (.tuple #[.int .i64 (k : Int), .agg (secV s).toArray]) W := hen
        have hst := run_secstore W s
        have hld : (W.alloc (.cells (secV s).toArray 55)).drew.rangeAt W.heap.size 0 (secV s) := fun j v hj => by
          rw [Nat.zero_add]
          exact (row_cells W (secV s) 55).drew.cell hj
        have R3 := (RW.alloc (.cells (secV s).toArray 55)).drew
        have ap3 := (apW.new (Below.alloc (Below.refl _ _) apW.size (.cells (secV s).toArray 55))).drew
        have hb3 : (W.alloc (.cells (secV s).toArray 55)).drew.heap[gm]? = some (.map es clock) := (((Below.refl W.heap.size W).alloc (Nat.le_refl _) _).block gm RW.r2.lt).trans hWb
        have hr3 : (W.alloc (.cells (secV s).toArray 55)).drew.heap[r]? = some (.mapIter (some gm) clock (seen.push e.born) clock) := (((Below.refl W.heap.size W).alloc (Nat.le_refl _) _).block r (by rw [hWs, ← hsz1]; exact hrl)).trans hWr
        have FT := hfl.step HM.out hm.1 hk hs
        have hme := leftN_eq hb hr
        clear hfl hap hb hr R he hm hk hv hs hal hW hsz1 hh hrl hWr far hWb RW apW hWs
        go_wp2_with fail
        obtain ⟨W4, hW4⟩ : ∃ W4, (W.alloc (.cells (secV s).toArray 55)).drew = W4 := ⟨_, rfl⟩
        rw [hW4] at hld R3 ap3 hb3 hr3
        have HW4 := Lib.hid hW4
        have HLD := Lib.hid hld
        have c0' := R3.c0
        have hput := run_secput R3.r1 hkn s
        have k1 : k < S.n := by rw [← eN]; exact hkn
        have k0 : (k : Int) < S.n := by omega
        have P5 := R3.put HD.out hkn s
        have ap5 := ap3.then_ (apart_cells (F := F') (secV s) (k * 64) W4 ((HF.out gs).2 (Or.inr (Or.inl rfl))))
        have hb5 := (setCells_block gs (secV s) (k * 64) W4 gm HD.out.2.2.symm).trans hb3
        have hr5 := (setCells_block gs (secV s) (k * 64) W4 r HRB.out.2.1).trans hr3
        have hme5 := leftN_eq hb5 hr5
        have HP := Lib.hid (And.intro hr5 (And.intro hb5 (And.intro P5 (And.intro FT ap5))))
        have HME := Lib.hid (show leftN (W4.setCells gs (k * 64) (secV s)) gm r < leftN wr gm r from by rw [hme5, hme]; exact hlt2)
        clear hnx hen hst hW4 hld R3 ap3 hb3 hr3 P5 ap5 hb5 hr5 hme5 hme FT hlt2
        refine wp_region_still_tail 7 (by kernel_rfl) (by kernel_rfl) ?_
        simp only [List.take_succ_cons, List.take_zero, List.drop_succ_cons, List.drop_zero]
        rw [show { W.alloc (.cells (secV s).toArray 55) with drawn := (W.alloc (.cells (secV s).toArray 55)).drawn + 1 } = W4 from HW4.out]
        iterate 5 still_step
        refine wpStill_step (fun K hK => ?_)
        refine still_load_mid rfl _ _ rfl W.heap.size 0 rfl (secV s) _ HLD.out Try.underlying55 rfl (by rw [zero_sec.2, secV_len]) ?_
        refine hK _ ?_
        clear hK K
        still_step
        refine wpStill_nil ?_
        go_wp2
        go_roundw
        case rel => exact ⟨seen.push e.born, updF g k s, HP.out⟩
        case measure => exact HME.out
end Go.Proofs.Ytoalckcpahnpmaa

/- Layer 7: the statements, walked: PlatterReads. -/
import Derived.Test.YtoalckcpahnpmaaDiskSix
namespace Go.Proofs.Ytoalckcpahnpmaa
open Go.RowKit Go.ChangeShapes Go.WideShapes

set_option maxRecDepth 100000 in
set_option maxHeartbeats 1600000 in
/-- PlatterReads -/
theorem reads_any (A : Option Addr) (n c : Nat) (V : Nat → Nat → Value) (w : World) (hc : n ≤ 140737488351232) (hr : ReadsS w w.heap.size A n 6 V) (ho : ActsOk n V) :
    Holds Try.prog 7 #[.slice A n c] w := by
  have HR := Lib.hid hr
  have HO := Lib.hid ho
  clear hr ho
  unfold Holds
  go_enter Try.func7, Try.ntmps7
  go_wp2_with fail
  refine (awake07 _).mono ?_
  rintro e w1 ⟨rfl, b1⟩
  go_wp2_with fail
  refine (disk_new 6 _ (by decide) (by decide)).mono ?_
  rintro e w2 ⟨a, rfl, h2, b2⟩
  replace b2 := below_call b1 b2
  go_wp2_with fail
  obtain ⟨w3, hw3, r3, b3, hs3, add3⟩ := six_new w2
  rw [hw3]
  clear hw3
  have h3 := add3 _ _ _ (disk_local _ _) h2
  replace b3 := below_call b2 b3
  have B1 := Lib.hid b1
  have hB : w.heap.size ≤ w2.heap.size := b2.size
  have hB1 : w.heap.size ≤ w1.heap.size := b1.size
  generalize hg : w2.heap.size = g at *
  generalize hB0 : w1.heap.size = B0 at *
  obtain ⟨S0, hS0⟩ : ∃ S, DiskSt.new 6 = S := ⟨_, rfl⟩
  rw [hS0] at h3
  clear add3 h2 b1 b2 hg
  go_loopw [7] (fun i wr => ∃ k : Nat, k ≤ 6 ∧ i = .int .i64 k ∧ Row wr g (sixV (firstF k)) ∧ Has (Disk S0 a) B0 [g] wr ∧ Below w.heap.size w wr) (fun i _ => 6 - (intOf i).toNat)
  case atStart => exact ⟨0, by omega, rfl, r3, h3, b3⟩
  case round =>
    obtain ⟨k, hk, rfl, rr, hr, br⟩ := hrel
    by_cases hk6 : k < 6
    · have dk : decide ((k : Int) < 6) = true := by simp; omega
      have ik : (k : Int) < 6 := by omega
      have H := Lib.hid (And.intro rr (And.intro hr br))
      clear rr hr br
      go_wp2_with (at_make; refine wpList_mk 30 5 (.int .u8 0) 1 rfl _ _ rfl Try.underlying30 info07_u8 rfl (n := 64) rfl rfl (by omega) (by unfold maxLen; omega) ?_; intro w4 hlt4 b4 hrow4 hown4; have hconv := nought_conv hrow4; have r4 := H.out.1.below b4 H.out.1.lt; have ck := r4.cell (sixV_at _ hk6); have fk := r4.free (j := k) (by rw [sixV_length]; exact hk6); clear hown4 hlt4)
      have r5 := r4.set_ k (.string noughtB)
      rw [sixV_set, firstF_upd] at r5
      go_roundw
      case rel => exact ⟨k + 1, by omega, by go_num, r5, (H.out.2.1.below (disk_local _ _) b4).setCell (disk_local _ _) List.mem_cons_self _, (below_call H.out.2.2 b4).setCell (by exact hB) _⟩
      case measure => simp [intOf]; omega
    · obtain rfl : k = 6 := by omega
      rw [show ((6 : Nat) : Int) = 6 from rfl]
      have e6 : sixV (firstF 6) = sixV S0.read := sixV_eq fun j hj => by
        rw [← hS0]
        unfold firstF
        rw [if_pos hj]
        rfl
      rw [e6] at rr
      have hon : S0.On ∧ S0.n = 6 ∧ S0.Whole ∧ S0.acts = 0 := by
        rw [← hS0]
        exact ⟨⟨rfl, rfl⟩, rfl, DiskSt.whole_new 6, rfl⟩
      have H := Lib.hid (And.intro hon (And.intro rr (And.intro hr br)))
      clear rr hr br e6 hS0 hon
      go_wp2
      go_loopw [8] (fun i wr => ∃ (k : Nat) (S : DiskSt), k ≤ n ∧ k ≤ 80 ∧ i = .int .i64 k ∧ Hid ((S.On ∧ S.n = 6 ∧ S.Whole ∧ S.acts = k) ∧ Row wr g (sixV S.read) ∧ Has (Disk S a) B0 [g] wr ∧ Below w.heap.size w wr)) (fun i _ => n - (intOf i).toNat)
      case atStart => exact ⟨0, S0, Nat.zero_le _, by omega, rfl, H⟩
      case round =>
        clear H
        obtain ⟨k, S, hkn, hk80, rfl, H⟩ := hrel
        by_cases hk : k < n ∧ k < 80
        · obtain ⟨hk1, hk2⟩ := hk
          have dk : decide ((k : Int) < n) = true := by simp; omega
          have dk2 : decide ((k : Int) < 80) = true := by simp; omega
          have ik : (k : Int) < n := by omega
          obtain ⟨b, o, rfl, hb, hcell⟩ := HR.out.at_ hk1
          obtain ⟨zw, zn, zt, zl, e0, e1, e2, e3, f0, f1, f2, f3⟩ := HO.out k hk1
          have c0 : wr.cell? ⟨b, o + k * 6, none⟩ = some (.int .i64 zw) := ((H.out.2.2.2).cell (by exact hb)).trans ((hcell 0 (by decide)).trans (by rw [e0]))
          have c1 : wr.cell? ⟨b, o + k * 6 + 1, none⟩ = some (.int .i64 zn) := ((H.out.2.2.2).cell (by exact hb)).trans ((hcell 1 (by decide)).trans (by rw [e1]))
          have c3 : wr.cell? ⟨b, o + k * 6 + 3, none⟩ = some (.int .i64 zl) := ((H.out.2.2.2).cell (by exact hb)).trans ((hcell 3 (by decide)).trans (by rw [e3]))
          clear hcell e0 e1 e2 e3 f2
          have P1 := Lib.hid (fun w' => pick07 zn 6 w' f1 (by decide) (by decide))
          have P2 := Lib.hid (fun w' => pick07 zw 4 w' f0 (by decide) (by decide))
          have C1 := Lib.hid (fun w' => sector07 zl w' f3)
          have hz := sectB_size zl
          have hm := pickZ_in zn 6 (by decide)
          obtain ⟨m, hmm⟩ : ∃ m : Nat, pickZ zn 6 = (m : Int) := ⟨(pickZ zn 6).toNat, by omega⟩
          rw [hmm] at P1 hm
          generalize pickZ zw 4 = q at P2
          generalize sectB zl = t at *
          clear hmm f0 f1 f3
          have hm6 : m < 6 := by omega
          have im : (m : Int) < 6 := by omega
          go_wp2_with fail
          refine (P1.out _).mono ?_
          rintro e w5 ⟨rfl, rfl⟩
          go_wp2_with fail
          refine (P2.out _).mono ?_
          rintro e w5 ⟨rfl, rfl⟩
          go_wp2_with fail
          all_goals first
            | (with_reducible refine ((disk_flush S a (by have := H.out.1.2.2.2; unfold DiskSt.Few; omega) H.out.1.2.2.1).has H.out.2.2.1).mono ?_
               rintro e w6 ⟨rfl, h6, k6⟩
               obtain ⟨S1, H1⟩ : ∃ S1 : DiskSt, Hid ((S1.On ∧ S1.n = 6 ∧ S1.Whole ∧ S1.acts = k + 1) ∧ Row w6 g (sixV S1.read) ∧ Has (Disk S1 a) B0 [g] w6 ∧ Below w.heap.size w w6) :=
                 ⟨S.flush, ⟨H.out.1.1.flush_on, by rw [DiskSt.n_flush, H.out.1.2.1], DiskSt.whole_flush H.out.1.2.2.1, by rw [H.out.1.1.flush, ← H.out.1.2.2.2]⟩, by rw [H.out.1.1.flush_read]; exact k6.row List.mem_cons_self H.out.2.1, h6, H.out.2.2.2.trans (k6.below.mono (by exact hB1))⟩
               clear h6 k6)
            | (with_reducible refine (C1.out _).mono ?_
               rintro e w6 ⟨rfl, b6⟩
               have r6 := H.out.2.1.below b6 H.out.2.1.lt
               have h6 := H.out.2.2.1.below (disk_local _ _) b6
               have bb6 := below_call H.out.2.2.2 b6
               have ck := r6.cell (sixV_at _ hm6)
               have fk := r6.free (j := m) (by rw [sixV_length]; exact hm6)
               have r7 := r6.set_ m (.string t)
               rw [sixV_set] at r7
               have h7 := h6.setCell (disk_local _ _) (p := ⟨g, m, none⟩) List.mem_cons_self (.string t)
               have bb7 := bb6.setCell (p := ⟨g, m, none⟩) (by exact hB) (.string t)
               have c7 := r7.cell (sixV_at _ hm6)
               rw [show updF S.read m t m = t from if_pos rfl] at c7
               clear r6 h6 bb6
               go_wp2_with fail
               with_reducible refine ((disk_write S a m t (by have := H.out.1.2.2.2; unfold DiskSt.Few; omega) (by rw [H.out.1.2.1]; exact hm6) hz).has h7).mono ?_
               rintro e w8 ⟨rfl, h8, k8⟩
               obtain ⟨S1, H1⟩ : ∃ S1 : DiskSt, Hid ((S1.On ∧ S1.n = 6 ∧ S1.Whole ∧ S1.acts = k + 1) ∧ Row w8 g (sixV S1.read) ∧ Has (Disk S1 a) B0 [g] w8 ∧ Below w.heap.size w w8) :=
                 ⟨S.write m t, ⟨H.out.1.1.write_on m t, by rw [DiskSt.n_write, H.out.1.2.1], DiskSt.whole_write H.out.1.2.2.1 hz, by rw [H.out.1.1.write, ← H.out.1.2.2.2]⟩, by rw [H.out.1.1.write_read]; exact k8.row List.mem_cons_self r7, h8, bb7.trans (k8.below.mono (by exact hB1))⟩
               clear h7 r7 bb7 c7 ck fk h8 k8)
          all_goals
            clear P1 P2 C1 H c0 c1 c3
            go_wp2
            go_loopw [10] (fun i wr => ∃ j : Nat, j ≤ 6 ∧ i = .int .i64 j ∧ Hid (Row wr g (sixV S1.read) ∧ Has (Disk S1 a) B0 [g] wr ∧ Below w.heap.size w wr)) (fun i _ => 6 - (intOf i).toNat)
            case atStart => exact ⟨0, Nat.zero_le _, rfl, Lib.hid H1.out.2⟩
            case round =>
              obtain ⟨j, hj, rfl, H2⟩ := hrel
              by_cases hj6 : j < 6
              · have dj : decide ((j : Int) < 6) = true := by simp; omega
                have ij : (j : Int) < 6 := by omega
                go_wp2_with fail
                with_reducible refine (disk_read S1 a j _ (H2.out.2.1.sees (.refl _)) H1.out.1.1.off_ (by rw [H1.out.1.2.1]; exact hj6) H1.out.1.2.2.1).mono ?_
                rintro e w9 ⟨rfl, b9⟩
                have r9 := H2.out.1.below b9 H2.out.1.lt
                have cj := r9.cell (sixV_at _ hj6)
                have H3 := Lib.hid (And.intro r9 (And.intro (H2.out.2.1.below (disk_local _ _) b9) (below_call H2.out.2.2 b9)))
                clear r9 H2 b9
                go_wp2
                go_roundw
                case rel => exact ⟨j + 1, by omega, by go_num, H3⟩
                case measure => simp [intOf]; omega
              · obtain rfl : j = 6 := by omega
                have dj : decide (((6 : Nat) : Int) < 6) = false := by decide
                go_wp2
                go_roundw
                case rel =>
                  exact ⟨k + 1, S1, by omega, by omega, by go_num, Lib.hid ⟨H1.out.1, H2.out⟩⟩
                case measure => simp [intOf]; omega
        · have dk : (decide ((k : Int) < n) && decide ((k : Int) < 80)) = false := by
            simp
            omega
          have hmin : min n 80 = k := by omega
          have hmi : (if (n : Int) < 80 then (n : Int) else 80) = (k : Int) := by split <;> omega
          have A9 := Lib.hid (fun w' (h : ∃ F, Disk S a w' F) => disk_acts S a w' h)
          rw [H.out.1.2.2.2] at A9
          go_wp2_with fail
          all_goals
            with_reducible refine (A9.out _ (H.out.2.2.1.sees (.refl _))).mono ?_
            rintro e w9 ⟨rfl, b9⟩
            have b10 := below_call H.out.2.2.2 b9
            go_wp2
            go_ret
            first | exact ⟨rfl, b10⟩ | (refine ⟨?_, b10⟩; simp; omega)
end Go.Proofs.Ytoalckcpahnpmaa

/- Layer 7: the statements, walked: PlatterArms. -/
import Derived.Test.YtoalckcpahnpmaaDiskSix
namespace Go.Proofs.Ytoalckcpahnpmaa
open Go.RowKit Go.ChangeShapes Go.WideShapes

theorem stays_nil (S : DiskSt) (k : Nat) : S.stays [] k = false := by
  unfold DiskSt.stays
  rw [List.any_eq_false]
  intro i _
  simp
/-- a disk of one sector that is armed with N, behind i writes and flushes -/
def ArmInv (S : DiskSt) (i N : Nat) (s : ByteArray) : Prop :=
  S.n = 1 ∧ S.Whole ∧ S.acts ≤ 2 * i ∧ S.sure 0 = s ∧ (S.off = false ∧ S.acts = 2 * i ∧ 2 * i < N ∧ S.armed = N ∧ S.last 0 = none ∨ S.off = true ∧ N ≤ 2 * i)
theorem arm_step {S : DiskSt} {i N : Nat} {s t : ByteArray} (h : ArmInv S i N s) (ht : t.size = 64) :
    (2 * i + 2 < N ∧ S.err = 0 ∧ (S.write 0 t).err = 0 ∧ (S.write 0 t).flush.off = false ∧ ArmInv (S.write 0 t).flush (i + 1) N t) ∨
    (2 * i + 1 < N ∧ N ≤ 2 * i + 2 ∧ S.err = 0 ∧ (S.write 0 t).err = 70 ∧ (S.write 0 t).flush.off = true ∧ ArmInv (S.write 0 t).flush (i + 1) N s) ∨
    (N ≤ 2 * i + 1 ∧ S.err = 70 ∧ (S.write 0 t).err = 70 ∧ (S.write 0 t).flush.off = true ∧ ArmInv (S.write 0 t).flush (i + 1) N s) := by
  obtain ⟨h1, h2, h3, h4, h5⟩ := h
  have g1 : (S.write 0 t).flush.n = 1 := by rw [DiskSt.n_flush, DiskSt.n_write, h1]
  have g2 : (S.write 0 t).flush.Whole := DiskSt.whole_flush (DiskSt.whole_write h2 ht)
  have g3 : (S.write 0 t).flush.acts ≤ 2 * (i + 1) := by
    have a := DiskSt.acts_flush (S.write 0 t)
    have b := DiskSt.acts_write S 0 t
    omega
  obtain ⟨n, sure, last, acts, armed, off⟩ := S
  simp only at h1 h3 h4 h5
  rcases h5 with ⟨rfl, rfl, k3, rfl, k5⟩ | ⟨rfl, k2⟩
  · by_cases e1 : 2 * i + 1 = armed
    · refine Or.inr (Or.inr ⟨by omega, ?_, ?_, ?_, g1, g2, g3, ?_, Or.inr ⟨?_, by omega⟩⟩) <;>
        simp [DiskSt.err, DiskSt.fails, DiskSt.write, DiskSt.flush, DiskSt.act, e1, h4]
    · by_cases e2 : 2 * i + 2 = armed
      · refine Or.inr (Or.inl ⟨by omega, by omega, ?_, ?_, ?_, g1, g2, g3, ?_, Or.inr ⟨?_, by omega⟩⟩) <;>
          simp [DiskSt.err, DiskSt.fails, DiskSt.write, DiskSt.flush, DiskSt.act, e1, e2, h4]
      · refine Or.inl ⟨by omega, ?_, ?_, ?_, g1, g2, g3, ?_, Or.inl ⟨?_, ?_, by omega, ?_, ?_⟩⟩ <;>
          simp [DiskSt.err, DiskSt.fails, DiskSt.write, DiskSt.flush, DiskSt.act, e1, e2, h4, DiskSt.read, updF]
        all_goals omega
  · refine Or.inr (Or.inr ⟨by omega, ?_, ?_, ?_, g1, g2, g3, ?_, Or.inr ⟨?_, by omega⟩⟩) <;>
      simp [DiskSt.err, DiskSt.fails, DiskSt.write, DiskSt.flush, DiskSt.act, h4]

set_option maxRecDepth 100000 in
set_option maxHeartbeats 1600000 in
/-- PlatterArms -/
theorem arms_any (A : Option Addr) (n c : Nat) (l : List Int) (z : Int) (w : World) (_hc : n ≤ 140737488351232) (hr : Reads w w.heap.size A n (l.map (.int .i64))) (ho : ∀ x ∈ l, (Lit.int .i64 x).wf = true) (hz : (Lit.int .i64 z).wf = true) :
    Holds Try.prog 4 #[.slice A n c, .int .i64 z] w := by
  have HR := Lib.hid hr
  have HO := Lib.hid ho
  clear hr ho
  have P1 := Lib.hid (fun w' => pick07 z 60 w' hz (by decide) (by decide))
  have hm := pickZ_in z 60 (by decide)
  obtain ⟨N, hN⟩ : ∃ N : Nat, 1 + pickZ z 60 = (N : Int) := ⟨(1 + pickZ z 60).toNat, by omega⟩
  generalize pickZ z 60 = q at *
  have hN1 : 1 ≤ N ∧ N ≤ 60 := by omega
  clear hz
  obtain ⟨S0, hS0⟩ : ∃ S, DiskSt.new 1 = S := ⟨_, rfl⟩
  obtain ⟨S1, hS1⟩ : ∃ S, S0.arm (N : Int) = S := ⟨_, rfl⟩
  have C0 : ∀ w', Calls Try.prog 9 #[.int .i64 1] w' fun e w2 => ∃ a, e = .returned (.tuple #[.pointer (some a), .int .i64 0]) ∧ Has (Disk S0 a) w'.heap.size [] w2 ∧ Below w'.heap.size w' w2 := fun w' => by
    rw [← hS0]
    exact disk_new 1 w' (by decide) (by decide)
  have C1 : ∀ a, Acts Try.prog 19 #[.pointer (some a), .int .i64 (N : Int)] (.returned (.int .i64 0)) (Disk S0 a) (Disk S1 a) := fun a => by
    have h := disk_arm S0 a N (by rw [← hS0]; exact (by decide : 0 ≤ 1000000)) (WalkArith.wf_i64 (by omega))
    rw [hS1, show DiskSt.armE (N : Int) = 0 from if_pos ⟨by omega, by omega⟩] at h
    exact h
  have hinv : ArmInv S1 0 N noughtB := by
    rw [← hS1, ← hS0]
    have e : (DiskSt.new 1).arm (N : Int) = { DiskSt.new 1 with armed := N } := by
      unfold DiskSt.arm
      rw [if_pos ⟨by omega, by omega⟩, if_neg (by omega)]
      simp [DiskSt.new]
    rw [e]
    exact ⟨rfl, ⟨fun _ => rfl, fun _ _ h => by cases h⟩, Nat.le_refl _, rfl, Or.inl ⟨rfl, rfl, by omega, rfl, rfl⟩⟩
  have HI := Lib.hid hinv
  replace C0 := Lib.hid C0
  replace C1 := Lib.hid C1
  clear hS0 hS1 hinv
  unfold Holds
  go_enter Try.func4, Try.ntmps4
  go_wp2_with fail
  refine (awake07 _).mono ?_
  rintro e w1 ⟨rfl, b1⟩
  go_wp2_with fail
  refine (C0.out _).mono ?_
  rintro e w2 ⟨a, rfl, h2, b2⟩
  replace b2 := below_call b1 b2
  go_wp2_with fail
  refine (P1.out _).mono ?_
  rintro e w3 ⟨rfl, rfl⟩
  go_wp2_with fail
  refine ((C1.out a).has h2).mono ?_
  rintro e w4 ⟨rfl, h4, k4⟩
  have hB : w.heap.size ≤ w1.heap.size := b1.size
  have b4 := b2.trans (k4.below.mono hB)
  generalize w1.heap.size = B0 at *
  clear h2 k4 b2 b1 C0 C1 P1
  go_wp2_with (at_make; refine wpList_mk 30 5 (.int .u8 0) 1 rfl _ _ rfl Try.underlying30 info07_u8 rfl (n := 64) rfl rfl (by omega) (by unfold maxLen; omega) ?_; intro w5 hlt5 b5 hrow5 hown5; have hconv := nought_conv hrow5; have H5 := Lib.hid (And.intro (h4.below (disk_local _ _) b5) (below_call b4 b5)); clear hown5 hlt5 b5 h4 b4)
  go_loopw [7, 8, 9, 10] (fun e s d i wr => ∃ (k : Nat) (S : DiskSt) (t : ByteArray) (E : Int), k ≤ n ∧ k ≤ 60 ∧ e = .int .i64 E ∧ s = .string t ∧ d = .int .i64 (2 * (k : Int)) ∧ i = .int .i64 k ∧ Hid (ArmInv S k N t ∧ Has (Disk S a) B0 [] wr ∧ Below w.heap.size w wr)) (fun _ _ _ i _ => n - (intOf i).toNat)
  case atStart => exact ⟨0, S1, noughtB, 0, Nat.zero_le _, by omega, rfl, rfl, rfl, rfl, Lib.hid ⟨HI.out, H5.out⟩⟩
  case round =>
    clear H5 HI hconv hrow5
    obtain ⟨k, S, t, E, hkn, hk60, rfl, rfl, rfl, rfl, H⟩ := hrel
    by_cases hk : k < n ∧ k < 60
    · obtain ⟨hk1, hk2⟩ := hk
      have dk : decide ((k : Int) < n) = true := by simp; omega
      have dk2 : decide ((k : Int) < 60) = true := by simp; omega
      have ik : (k : Int) < n := by omega
      obtain ⟨b, o, u, rfl, hb, hu, hcell⟩ := HR.out.at_ hk1
      rw [List.getElem?_map] at hu
      obtain ⟨x, hx, rfl⟩ := Option.map_eq_some_iff.1 hu
      have hxw := HO.out x (List.mem_of_getElem? hx)
      have c0 : wr.cell? ⟨b, o + k, none⟩ = some (.int .i64 x) := ((H.out.2.2).cell (by exact hb)).trans hcell
      have C2 := Lib.hid (fun w' => sector07 x w' hxw)
      have hz := sectB_size x
      generalize sectB x = t2 at *
      have HC := Lib.hid hcell
      clear hu hx hcell hxw
      have hst := arm_step H.out.1 hz
      have W1 : Acts Try.prog 13 #[.pointer (some a), .int .i64 0, .string t2] (.returned (.int .i64 S.err)) (Disk S a) (Disk (S.write 0 t2) a) := disk_write S a 0 t2 (by have := H.out.1.2.2.1; unfold DiskSt.Few; omega) (by rw [H.out.1.1]; decide) hz
      have W2 : Acts Try.prog 11 #[.pointer (some a)] (.returned (.int .i64 (S.write 0 t2).err)) (Disk (S.write 0 t2) a) (Disk (S.write 0 t2).flush a) := disk_flush (S.write 0 t2) a (by have := H.out.1.2.2.1; have := DiskSt.acts_write S 0 t2; unfold DiskSt.Few; omega) (DiskSt.whole_write H.out.1.2.1 hz)
      generalize S.write 0 t2 = Sw at *
      generalize hSf : Sw.flush = Sf at *
      have W3 := Lib.hid (fun w' (h : ∃ F, Disk Sf a w' F) => disk_off Sf a w' h)
      generalize S.err = E1 at *
      generalize Sw.err = E2 at *
      generalize Sf.off = O3 at *
      replace W1 := Lib.hid W1
      replace W2 := Lib.hid W2
      clear hSf
      go_wp2_with fail
      refine (C2.out _).mono ?_
      rintro e w6 ⟨rfl, b6⟩
      have h6 := H.out.2.1.below (disk_local _ _) b6
      have bb6 := below_call H.out.2.2 b6
      go_wp2_with fail
      refine (W1.out.has h6).mono ?_
      rintro e w7 ⟨rfl, h7, k7⟩
      have b7 := bb6.trans (k7.below.mono hB)
      clear h6 bb6 k7
      go_wp2_with fail
      refine (W2.out.has h7).mono ?_
      rintro e w8 ⟨rfl, h8, k8⟩
      have b8 := b7.trans (k8.below.mono hB)
      clear h7 b7 k8
      have H8 := Lib.hid (And.intro h8 b8)
      clear h8 b8
      have c8 : w8.cell? ⟨b, o + k, none⟩ = some (.int .i64 x) := (H8.out.2.cell (by exact hb)).trans HC.out
      have W4 : Hid (∀ w', Below w8.heap.size w8 w' → w'.cell? ⟨b, o + k, none⟩ = some (.int .i64 x)) := fun w' h => keep_cell h c8
      clear c8 c0
      rcases hst with ⟨s1, rfl, rfl, rfl, s5⟩ | ⟨s1, s2, rfl, rfl, rfl, s5⟩ | ⟨s1, rfl, rfl, rfl, s5⟩
      · have S5 := Lib.hid s5
        have d1 : decide (2 * (k : Int) + 2 - 1 < N) = true := by simp; omega
        have d2 : decide (2 * (k : Int) + 2 < N) = true := by simp; omega
        have d3 : decide ((N : Int) ≤ 2 * (k : Int) + 2) = false := by simp; omega
        clear s5
        go_wp2_with fail
        refine (W3.out _ (H8.out.1.sees (.refl _))).mono ?_
        rintro e w9 ⟨rfl, b9⟩
        have c9 := W4.out _ b9
        have H9 := Lib.hid (And.intro (H8.out.1.below (disk_local _ _) b9) (below_call H8.out.2 b9))
        clear H8 b9
        go_wp2_with fail
        refine (C2.out _).mono ?_
        rintro e w10 ⟨rfl, b10⟩
        have H10 := Lib.hid (And.intro (H9.out.1.below (disk_local _ _) b10) (below_call H9.out.2 b10))
        go_wp2
        go_roundw
        case rel => exact ⟨k + 1, _, t2, 0, by omega, by omega, rfl, rfl, by go_num, by go_num, Lib.hid ⟨S5.out, H10.out⟩⟩
        case measure => simp [intOf]; omega
      · have S5 := Lib.hid s5
        have d1 : decide (2 * (k : Int) + 2 - 1 < N) = true := by simp; omega
        have d2 : decide (2 * (k : Int) + 2 < N) = false := by simp; omega
        have d3 : decide ((N : Int) ≤ 2 * (k : Int) + 2) = true := by simp; omega
        clear s5
        go_wp2_with fail
        refine (W3.out _ (H8.out.1.sees (.refl _))).mono ?_
        rintro e w9 ⟨rfl, b9⟩
        have H9 := Lib.hid (And.intro (H8.out.1.below (disk_local _ _) b9) (below_call H8.out.2 b9))
        clear H8 b9
        go_wp2
        go_roundw
        case rel => exact ⟨k + 1, _, t, 0, by omega, by omega, rfl, rfl, by go_num, by go_num, Lib.hid ⟨S5.out, H9.out⟩⟩
        case measure => simp [intOf]; omega
      · have S5 := Lib.hid s5
        have d1 : decide (2 * (k : Int) + 2 - 1 < N) = false := by simp; omega
        have d2 : decide (2 * (k : Int) + 2 < N) = false := by simp; omega
        have d3 : decide ((N : Int) ≤ 2 * (k : Int) + 2) = true := by simp; omega
        clear s5
        go_wp2_with fail
        refine (W3.out _ (H8.out.1.sees (.refl _))).mono ?_
        rintro e w9 ⟨rfl, b9⟩
        have H9 := Lib.hid (And.intro (H8.out.1.below (disk_local _ _) b9) (below_call H8.out.2 b9))
        clear H8 b9
        go_wp2
        go_roundw
        case rel => exact ⟨k + 1, _, t, 70, by omega, by omega, rfl, rfl, by go_num, by go_num, Lib.hid ⟨S5.out, H9.out⟩⟩
        case measure => simp [intOf]; omega
    · have hw := H.out.1.2.1
      have hn1 := H.out.1.1
      have hs1 := H.out.1.2.2.2.1
      have R1 : ActsL Try.prog 14 #[.pointer (some a), .slice none 0 0] (.returned (.tuple #[])) none 0 [] (Disk S a) (Disk (S.restart []) a) := disk_restart S a none 0 0 [] hw (Nat.le_refl _)
      have R2 : ∀ w', (∃ F, Disk (S.restart []) a w' F) → Calls Try.prog 17 #[.pointer (some a), .int .i64 0] w' fun e w2 => e = .returned (.tuple #[.string t, .int .i64 0]) ∧ Below w'.heap.size w' w2 := fun w' h => by
        have h := disk_read (S.restart []) a 0 w' h rfl (by show 0 < S.n; rw [hn1]; decide) (DiskSt.whole_restart hw [])
        rw [show (S.restart []).read 0 = t by
          show (if S.stays [] 0 = true then S.read 0 else S.sure 0) = t
          rw [stays_nil, if_neg (by decide), hs1]] at h
        exact h
      have R3 := Lib.hid (fun w' (h : ∃ F, Disk (S.restart []) a w' F) => disk_off (S.restart []) a w' h)
      rw [show (S.restart []).off = false from rfl] at R3
      replace R1 := Lib.hid R1
      replace R2 := Lib.hid R2
      clear hw hn1 hs1
      go_wp2_with fail
      all_goals
        refine (R1.out.has H.out.2.1 (Reads.none_ _ _ _) (fun h => absurd h (by decide))).mono ?_
        rintro e w6 ⟨rfl, h6, k6⟩
        have b6 := H.out.2.2.trans (k6.below.mono hB)
        go_wp2_with fail
        refine (R2.out _ (h6.sees (.refl _))).mono ?_
        rintro e w7 ⟨rfl, b7⟩
        have h7 := h6.below (disk_local _ _) b7
        have b8 := below_call b6 b7
        go_wp2_with fail
        refine (R3.out _ (h7.sees (.refl _))).mono ?_
        rintro e w8 ⟨rfl, b9⟩
        have b10 := below_call b8 b9
        go_wp2
        go_ret
        exact ⟨rfl, b10⟩
end Go.Proofs.Ytoalckcpahnpmaa

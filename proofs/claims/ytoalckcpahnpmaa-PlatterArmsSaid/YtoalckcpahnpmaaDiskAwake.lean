/- Layer 7: the chapter's example, walked. -/
import Derived.Test.YtoalckcpahnpmaaDiskHelp
namespace Go.Proofs.Ytoalckcpahnpmaa
open Go.RowKit Go.ChangeShapes Go.WideShapes

set_option maxRecDepth 100000 in
set_option maxHeartbeats 1600000 in
theorem awake07 (w : World) :
    Calls Try.prog 8 #[] w fun e w' => e = .returned (.bool true) ∧ Below w.heap.size w w' := by
  have C1 := Lib.hid (fun w' => sector07 1 w' (by decide))
  have C2 := Lib.hid (fun w' => sector07 2 w' (by decide))
  have C3 := Lib.hid (fun w' => sector07 3 w' (by decide))
  have C4 := Lib.hid (fun w' => sector07 4 w' (by decide))
  have z1 := sectB_size 1
  have z2 := sectB_size 2
  have z3 := sectB_size 3
  have z4 := sectB_size 4
  generalize sectB 1 = s1 at *
  generalize sectB 2 = s2 at *
  generalize sectB 3 = s3 at *
  generalize sectB 4 = s4 at *
  have b0 := Below.refl w.heap.size w
  obtain ⟨S0, hS0⟩ : ∃ S, DiskSt.new 2 = S := ⟨_, rfl⟩
  obtain ⟨S1, hS1⟩ : ∃ S, S0.write 0 s1 = S := ⟨_, rfl⟩
  obtain ⟨S2, hS2⟩ : ∃ S, S1.flush = S := ⟨_, rfl⟩
  obtain ⟨S3, hS3⟩ : ∃ S, S2.write 0 s2 = S := ⟨_, rfl⟩
  obtain ⟨S4, hS4⟩ : ∃ S, S3.write 1 s3 = S := ⟨_, rfl⟩
  obtain ⟨S5, hS5⟩ : ∃ S, S4.restart [0, 1] = S := ⟨_, rfl⟩
  obtain ⟨S6, hS6⟩ : ∃ S, S5.arm 1 = S := ⟨_, rfl⟩
  obtain ⟨S7, hS7⟩ : ∃ S, S6.write 0 s4 = S := ⟨_, rfl⟩
  have HR : Hid (S5.read 0 = s1 ∧ S5.read 1 = s3 ∧ S7.off = true ∧ S7.acts = 5) := by
    subst hS0 hS1 hS2 hS3 hS4 hS5 hS6 hS7
    exact ⟨rfl, rfl, rfl, rfl⟩
  have HE : Hid (S0.err = 0 ∧ S1.err = 0 ∧ S2.err = 0 ∧ S3.err = 0 ∧ S6.err = 70) := by
    subst hS0 hS1 hS2 hS3 hS4 hS5 hS6
    exact ⟨rfl, rfl, rfl, rfl, rfl⟩
  have HN : Hid (S0.n = 2 ∧ S1.n = 2 ∧ S2.n = 2 ∧ S3.n = 2 ∧ S5.n = 2 ∧ S6.n = 2) := by
    subst hS0 hS1 hS2 hS3 hS4 hS5 hS6
    exact ⟨rfl, rfl, rfl, rfl, rfl, rfl⟩
  have HF : Hid (S0.Few ∧ S1.Few ∧ S2.Few ∧ S3.Few ∧ S5.Few ∧ S6.Few) := by
    subst hS0 hS1 hS2 hS3 hS4 hS5 hS6
    exact ⟨(by decide : 0 ≤ 1000000), (by decide : 1 ≤ 1000000), (by decide : 2 ≤ 1000000), (by decide : 3 ≤ 1000000), (by decide : 4 ≤ 1000000), (by decide : 4 ≤ 1000000)⟩
  have w0 : S0.Whole := by rw [← hS0]; exact DiskSt.whole_new 2
  have w1 : S1.Whole := by rw [← hS1]; exact DiskSt.whole_write w0 z1
  have w2 : S2.Whole := by rw [← hS2]; exact DiskSt.whole_flush w1
  have w3 : S3.Whole := by rw [← hS3]; exact DiskSt.whole_write w2 z2
  have w4 : S4.Whole := by rw [← hS4]; exact DiskSt.whole_write w3 z3
  have w5 : S5.Whole := by rw [← hS5]; exact DiskSt.whole_restart w4 _
  have ho5 : S5.off = false := by rw [← hS5]; rfl
  have A0 : ∀ w', Calls Try.prog 9 #[.int .i64 2] w' fun e w2 => ∃ a, e = .returned (.tuple #[.pointer (some a), .int .i64 0]) ∧ Has (Disk S0 a) w'.heap.size [] w2 ∧ Below w'.heap.size w' w2 := fun w' => by
    rw [← hS0]
    exact disk_new 2 w' (by decide) (by decide)
  have A1 : ∀ a, Acts Try.prog 13 #[.pointer (some a), .int .i64 0, .string s1] (.returned (.int .i64 0)) (Disk S0 a) (Disk S1 a) := fun a => by
    have h := disk_write S0 a 0 s1 HF.out.1 (by rw [HN.out.1]; decide) z1
    rw [HE.out.1, hS1] at h
    exact h
  have A2 : ∀ a, Acts Try.prog 11 #[.pointer (some a)] (.returned (.int .i64 0)) (Disk S1 a) (Disk S2 a) := fun a => by
    have h := disk_flush S1 a HF.out.2.1 w1
    rw [HE.out.2.1, hS2] at h
    exact h
  have A3 : ∀ a, Acts Try.prog 13 #[.pointer (some a), .int .i64 0, .string s2] (.returned (.int .i64 0)) (Disk S2 a) (Disk S3 a) := fun a => by
    have h := disk_write S2 a 0 s2 HF.out.2.2.1 (by rw [HN.out.2.2.1]; decide) z2
    rw [HE.out.2.2.1, hS3] at h
    exact h
  have A4 : ∀ a, Acts Try.prog 13 #[.pointer (some a), .int .i64 1, .string s3] (.returned (.int .i64 0)) (Disk S3 a) (Disk S4 a) := fun a => by
    have h := disk_write S3 a 1 s3 HF.out.2.2.2.1 (by rw [HN.out.2.2.2.1]; decide) z3
    rw [HE.out.2.2.2.1, hS4] at h
    exact h
  have A5 : ∀ a (A : Option Addr) (c : Nat) (hc : 2 ≤ c), ActsL Try.prog 14 #[.pointer (some a), .slice A 2 c] (.returned (.tuple #[])) A 2 [.int .i64 0, .int .i64 1] (Disk S4 a) (Disk S5 a) := fun a A c hc => by
    have h := disk_restart S4 a A 2 c [0, 1] w4 hc
    rw [hS5] at h
    exact h
  have R0 : ∀ a w', (∃ F, Disk S5 a w' F) → Calls Try.prog 17 #[.pointer (some a), .int .i64 0] w' fun e w2 => e = .returned (.tuple #[.string s1, .int .i64 0]) ∧ Below w'.heap.size w' w2 := fun a w' h => by
    have h := disk_read S5 a 0 w' h ho5 (by rw [HN.out.2.2.2.2.1]; decide) w5
    rw [HR.out.1] at h
    exact h
  have R1 : ∀ a w', (∃ F, Disk S5 a w' F) → Calls Try.prog 17 #[.pointer (some a), .int .i64 1] w' fun e w2 => e = .returned (.tuple #[.string s3, .int .i64 0]) ∧ Below w'.heap.size w' w2 := fun a w' h => by
    have h := disk_read S5 a 1 w' h ho5 (by rw [HN.out.2.2.2.2.1]; decide) w5
    rw [HR.out.2.1] at h
    exact h
  have O7 : ∀ a w', (∃ F, Disk S7 a w' F) → Calls Try.prog 20 #[.pointer (some a)] w' fun e w2 => e = .returned (.bool true) ∧ Below w'.heap.size w' w2 := fun a w' h => by
    have h := disk_off S7 a w' h
    rw [HR.out.2.2.1] at h
    exact h
  have N7 : ∀ a w', (∃ F, Disk S7 a w' F) → Calls Try.prog 22 #[.pointer (some a)] w' fun e w2 => e = .returned (.int .i64 5) ∧ Below w'.heap.size w' w2 := fun a w' h => by
    have h := disk_acts S7 a w' h
    rw [HR.out.2.2.2] at h
    exact h
  have A6 : ∀ a, Acts Try.prog 19 #[.pointer (some a), .int .i64 1] (.returned (.int .i64 0)) (Disk S5 a) (Disk S6 a) := fun a => by
    have h := disk_arm S5 a 1 HF.out.2.2.2.2.1 (by decide)
    rw [hS6] at h
    exact h
  have A7 : ∀ a, Acts Try.prog 13 #[.pointer (some a), .int .i64 0, .string s4] (.returned (.int .i64 70)) (Disk S6 a) (Disk S7 a) := fun a => by
    have h := disk_write S6 a 0 s4 HF.out.2.2.2.2.2 (by rw [HN.out.2.2.2.2.2]; decide) z4
    rw [HE.out.2.2.2.2, hS7] at h
    exact h
  replace A0 := Lib.hid A0
  replace A1 := Lib.hid A1
  replace A2 := Lib.hid A2
  replace A3 := Lib.hid A3
  replace A4 := Lib.hid A4
  replace A5 := Lib.hid A5
  replace R0 := Lib.hid R0
  replace R1 := Lib.hid R1
  replace O7 := Lib.hid O7
  replace N7 := Lib.hid N7
  have A8 := Lib.hid (fun w' => disk_none 65 w' (by decide) (by decide))
  replace A6 := Lib.hid A6
  replace A7 := Lib.hid A7
  have HS5 := Lib.hid hS5
  have HO5 := Lib.hid ho5
  clear hS0 hS1 hS2 hS3 hS4 hS5 hS6 hS7 z1 z2 z3 z4 ho5
  go_enter Try.func8, Try.ntmps8
  go_wp2_with fail
  refine (A0.out _).mono ?_
  rintro e w1 ⟨a, rfl, h1, b1⟩
  go_wp2_with fail
  refine (C1.out _).mono ?_
  rintro e w2 ⟨rfl, b2⟩
  replace h1 := h1.below (disk_local _ _) b2
  replace b2 := below_call b1 b2
  go_wp2_with fail
  refine ((A1.out a).has h1).mono ?_
  rintro e w3 ⟨rfl, h3, k3⟩
  replace b3 := b2.trans k3.below
  go_wp2_with fail
  refine ((A2.out a).has h3).mono ?_
  rintro e w4 ⟨rfl, h4, k4⟩
  replace b4 := b3.trans k4.below
  go_wp2_with fail
  refine (C2.out _).mono ?_
  rintro e w5 ⟨rfl, b5⟩
  replace h4 := h4.below (disk_local _ _) b5
  replace b5 := below_call b4 b5
  go_wp2_with fail
  refine ((A3.out a).has h4).mono ?_
  rintro e w6 ⟨rfl, h6, k6⟩
  replace b6 := b5.trans k6.below
  go_wp2_with fail
  refine (C3.out _).mono ?_
  rintro e w7 ⟨rfl, b7⟩
  replace h6 := h6.below (disk_local _ _) b7
  replace b7 := below_call b6 b7
  go_wp2_with fail
  refine ((A4.out a).has h6).mono ?_
  rintro e w8 ⟨rfl, h8, k8⟩
  replace b8 := b7.trans k8.below
  clear h1 h3 h4 h6 b1 b2 b3 b4 b5 b6 b7 k3 k4 k6 k8
  go_wp2_with fail
  have h9 := h8.new (disk_local _ _) (.cells #[.int .i64 0, .int .i64 1] 3)
  have r9 := reads_lit w8 [.int .i64 0, .int .i64 1] 3 2 rfl
  rw [show w8.heap.size + 1 = (w8.alloc (.cells #[.int .i64 0, .int .i64 1] 3)).heap.size by simp] at r9
  have b9 := b8.alloc b8.size (.cells #[.int .i64 0, .int .i64 1] 3)
  refine ((A5.out a _ 2 (Nat.le_refl _)).has h9 r9 (fun _ b o hb => Or.inr (by simp only [Option.some.injEq, Addr.mk.injEq] at hb; rw [← hb.1]; exact List.mem_cons_self))).mono ?_
  rintro e w10 ⟨rfl, h10, k10⟩
  replace b10 := b9.trans k10.below
  go_wp2_with fail
  refine (R0.out a _ (h10.sees (.refl _))).mono ?_
  rintro e w11 ⟨rfl, b11⟩
  replace h11 := h10.below (disk_local _ _) b11
  replace b11 := below_call b10 b11
  clear h8 h9 h10 r9 b8 b9 b10 k10
  go_wp2_with fail
  refine (R1.out a _ (h11.sees (.refl _))).mono ?_
  rintro e w12 ⟨rfl, b12⟩
  replace h12 := h11.below (disk_local _ _) b12
  replace b12 := below_call b11 b12
  go_wp2_with fail
  refine ((A6.out a).has h12).mono ?_
  rintro e w13 ⟨rfl, h13, k13⟩
  replace b13 := b12.trans k13.below
  go_wp2_with fail
  refine (C4.out _).mono ?_
  rintro e w14 ⟨rfl, b14⟩
  replace h14 := h13.below (disk_local _ _) b14
  replace b14 := below_call b13 b14
  go_wp2_with fail
  refine ((A7.out a).has h14).mono ?_
  rintro e w15 ⟨rfl, h15, k15⟩
  replace b15 := b14.trans k15.below
  clear h11 h12 h13 h14 b11 b12 b13 b14 k13 k15
  go_wp2_with fail
  refine (A8.out _).mono ?_
  rintro e w16 ⟨rfl, b16⟩
  replace h16 := h15.below (disk_local _ _) b16
  replace b16 := below_call b15 b16
  go_wp2_with fail
  refine (C1.out _).mono ?_
  rintro e w17 ⟨rfl, b17⟩
  replace h17 := h16.below (disk_local _ _) b17
  replace b17 := below_call b16 b17
  go_wp2_with fail
  refine (C3.out _).mono ?_
  rintro e w18 ⟨rfl, b18⟩
  replace h18 := h17.below (disk_local _ _) b18
  replace b18 := below_call b17 b18
  go_wp2_with fail
  refine (O7.out a _ (h18.sees (.refl _))).mono ?_
  rintro e w19 ⟨rfl, b19⟩
  replace h19 := h18.below (disk_local _ _) b19
  replace b19 := below_call b18 b19
  go_wp2_with fail
  refine (N7.out a _ (h19.sees (.refl _))).mono ?_
  rintro e w20 ⟨rfl, b20⟩
  replace b20 := below_call b19 b20
  go_wp2
  go_ret
  exact ⟨rfl, b20⟩
end Go.Proofs.Ytoalckcpahnpmaa

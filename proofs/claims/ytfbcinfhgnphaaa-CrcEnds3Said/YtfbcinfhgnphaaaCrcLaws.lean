/- The statements of layer 2: walks. -/
import Derived.Test.YtfbcinfhgnphaaaCrcWalk
namespace Go.Proofs.Ytfbcinfhgnphaaa
open Go.RowKit

theorem crc_sum_val (s : ByteArray) (w : World) (v : Int) (hs : s.size ≤ 1125899906842624) (hv : ((goN firstSum (bsOf s) : Nat) : Int) = v) :
    Calls Try.prog 12 #[.string s] w fun e w' => e = .returned (.int .i64 v) ∧ w = w' := by
  subst hv
  exact crc_sum s w hs
theorem crc_go_val (n : Int) (s : ByteArray) (w : World) (v : Int) (hn : (Lit.int .i64 n).wf = true) (hs : s.size ≤ 1125899906842624) (hv : ((goN (sumI n) (bsOf s) : Nat) : Int) = v) :
    Calls Try.prog 14 #[.int .i64 n, .string s] w fun e w' => e = .returned (.int .i64 v) ∧ w = w' := by
  subst hv
  exact crc_go n s w hn hs
theorem wf_sum {c : Nat} (h : c < 16777216) : (Lit.int .i64 (c : Int)).wf = true := WalkArith.wf_i64 (by omega)
theorem sumI_nat {c : Nat} (h : c < 16777216) : sumI (c : Int) = c := by unfold sumI; omega
theorem firstSum_lt : firstSum < 16777216 := by decide

set_option maxRecDepth 100000 in
set_option maxHeartbeats 800000 in
theorem awake02 (w : World) : Calls Try.prog 11 #[] w fun e w' => e = .returned (.bool true) ∧ w = w' := by
  have h1 : ((goN firstSum (bsOf ⟨#[]⟩) : Nat) : Int) = 11994318 := by decide +kernel
  have h2 : ((goN firstSum (bsOf ⟨#[49, 50, 51, 52, 53, 54, 55, 56, 57]⟩) : Nat) : Int) = 2215682 := by decide +kernel
  have C1 := Lib.hid (fun w' => crc_sum_val ⟨#[]⟩ w' 11994318 (by decide) h1)
  have C2 := Lib.hid (fun w' => crc_sum_val ⟨#[49, 50, 51, 52, 53, 54, 55, 56, 57]⟩ w' 2215682 (by decide) h2)
  clear h1 h2
  go_enter Try.func11, Try.ntmps11
  go_wp2_with fail
  refine (C1.out _).mono ?_
  rintro e w1 ⟨rfl, rfl⟩
  go_wp2_with fail
  refine (C2.out _).mono ?_
  rintro e w1 ⟨rfl, rfl⟩
  go_wp2
  go_ret
  exact ⟨rfl, rfl⟩

set_option maxRecDepth 100000 in
set_option maxHeartbeats 800000 in
/-- CrcTells -/
theorem crcTells_any (n : Int) (s : ByteArray) (w : World) (hn : (Lit.int .i64 n).wf = true) (hs : s.size ≤ 140737488351232) :
    Holds Try.prog 3 #[.int .i64 n, .string s] w := by
  have hs2 : s.size ≤ 1125899906842624 := by omega
  obtain ⟨a, ha⟩ : ∃ a : Int, ((goN firstSum (bsOf s) : Nat) : Int) = a := ⟨_, rfl⟩
  obtain ⟨b, hb⟩ : ∃ b : Int, ((goN (sumI n) (bsOf s) : Nat) : Int) = b := ⟨_, rfl⟩
  have C1 := Lib.hid (fun w' => crc_sum_val s w' a hs2 ha)
  have C2 := Lib.hid (fun w' => crc_go_val n s w' b hn hs2 hb)
  have R2 := Lib.hid (fun w' => ref02_go n s w' hn hs2)
  have R1 := Lib.hid (fun w' => ref02_sum s w' hs2)
  rw [ha] at R1
  rw [hb] at R2
  clear hs2 ha hb hn hs
  unfold Holds
  go_enter Try.func3, Try.ntmps3
  go_wp2_with fail
  refine (awake02 _).mono ?_
  rintro e w1 ⟨rfl, rfl⟩
  go_wp2_with fail
  refine (C1.out _).mono ?_
  rintro e w1 ⟨rfl, rfl⟩
  go_wp2_with fail
  refine (R1.out _).mono ?_
  rintro e w1 ⟨rfl, rfl⟩
  go_wp2_with fail
  refine (C2.out _).mono ?_
  rintro e w1 ⟨rfl, rfl⟩
  go_wp2_with fail
  refine (R2.out _).mono ?_
  rintro e w1 ⟨rfl, rfl⟩
  go_wp2
  go_ret
  exact ⟨rfl, Below.refl _ _⟩
end Go.Proofs.Ytfbcinfhgnphaaa

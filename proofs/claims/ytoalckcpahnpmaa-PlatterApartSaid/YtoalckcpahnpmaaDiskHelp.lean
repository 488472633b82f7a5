/- Layer 7: the statements' own helpers, walked. -/
import Derived.Test.YtoalckcpahnpmaaTextsSame
import Derived.Test.YtoalckcpahnpmaaDiskWalk
import Derived.Test.YtoalckcpahnpmaaPick
import Derived.Deep.RegionHeld3
namespace Go.Proofs.Ytoalckcpahnpmaa
open Go.RowKit Go.ChangeShapes Go.WideShapes


set_option maxHeartbeats 400000 in
theorem pick07 (c : Int) (n : Int) (w : World) (hc : (Lit.int .i64 c).wf = true) (hn : 1 ≤ n) (hn2 : n ≤ 9223372036854775807) :
    Calls Try.prog 10 #[.int .i64 c, .int .i64 n] w fun e w' => e = .returned (.int .i64 (pickZ c n)) ∧ w' = w := by
  have hb := bounds_i64 hc
  have hn0 : (n == 0) = false := by simp; omega
  unfold pickZ
  by_cases h : c < 0
  · rw [if_pos h]
    go_enter Try.func10, Try.ntmps10
    go_wp2
    go_ret
    refine ⟨ret_int ?_, rfl⟩
    first
      | rfl
      | (rw [← Int.neg_tmod, Int.tmod_eq_emod_of_nonneg (by omega)])
  · rw [if_neg h]
    go_enter Try.func10, Try.ntmps10
    go_wp2
    go_ret
    refine ⟨ret_int ?_, rfl⟩
    first
      | rfl
      | (rw [Int.tmod_eq_emod_of_nonneg (by omega)])

theorem info07_u8 : (Try.prog.info? 5).map (fun i => (i.zero, i.size, i.bytes)) = some (some (.int .u8 0), 1, 1) := by kernel_rfl
theorem info07_str : (Try.prog.info? 9).map (fun i => (i.zero, i.size, i.bytes)) = some (some (.string ⟨#[]⟩), 1, 16) := by kernel_rfl
def sectL (m : Nat) : List UInt8 := (((List.replicate 64 (0 : UInt8)).set 0 (UInt8.ofNat (m % 256))).set 1 (UInt8.ofNat (m / 256))).set 63 (UInt8.ofNat (m / 3 % 256))
theorem sectL_length (m : Nat) : (sectL m).length = 64 := by simp [sectL]
/-- a raw number as a sector's text -/
def sectB (c : Int) : ByteArray := ⟨(sectL (pickZ c 65536).toNat).toArray⟩
theorem sectB_size (c : Int) : (sectB c).size = 64 := by show (List.toArray _).size = 64; rw [List.size_toArray, sectL_length]
theorem zeros07 (n : Nat) : List.replicate n (Value.int .u8 0) = (List.replicate n (0 : UInt8)).map byteV := by rw [List.map_replicate]; rfl
theorem byte07 (m : Nat) (h : m < 256) : byteV (UInt8.ofNat m) = .int .u8 (m : Int) := by
  unfold byteV
  rw [show (UInt8.ofNat m).toNat = m by simp; omega]

set_option maxRecDepth 100000 in
set_option maxHeartbeats 1600000 in
theorem sector07 (c : Int) (w : World) (hc : (Lit.int .i64 c).wf = true) :
    Calls Try.prog 12 #[.int .i64 c] w fun e w' => e = .returned (.string (sectB c)) ∧ Below w.heap.size w w' := by
  have P1 := Lib.hid (fun w' => pick07 c 65536 w' hc (by decide) (by decide))
  have hm := pickZ_in c 65536 (by decide)
  have hsz : bsOf (sectB c) = sectL (pickZ c 65536).toNat := rfl
  have hq : (⟨(sectL (pickZ c 65536).toNat).toArray⟩ : ByteArray) = sectB c := rfl
  obtain ⟨S, hS⟩ : ∃ S, sectB c = S := ⟨_, rfl⟩
  rw [hS] at hsz hq ⊢
  obtain ⟨m, hmm⟩ : ∃ m : Nat, pickZ c 65536 = (m : Int) := ⟨(pickZ c 65536).toNat, by omega⟩
  rw [hmm] at P1 hm hsz hq
  have hm2 : m < 65536 := by omega
  have b0 := Below.refl w.heap.size w
  clear hS hmm hc hsz
  go_enter Try.func12, Try.ntmps12
  go_wp2_with (at_make; refine wpList_mk 30 5 (.int .u8 0) 1 rfl _ _ rfl Try.underlying30 info07_u8 rfl (n := 64) rfl rfl (by omega) (by unfold maxLen; omega) ?_; intro w1 hlt1 b1 hrow1 hown1)
  go_wp2_with fail
  refine (P1.out _).mono ?_
  rintro e w2 ⟨rfl, rfl⟩
  clear hown1
  have r2 := hrow1.set_ 0 (.int .u8 ((m : Int) % 256))
  have r3 := r2.set_ 1 (.int .u8 ((m : Int) / 256))
  have r4 := r3.set_ 63 (.int .u8 ((m : Int) / 3 % 256))
  have c0 := hrow1.cell (j := 0) rfl
  have f0 := hrow1.free (j := 0) (by simp)
  have c1 := r2.cell (j := 1) rfl
  have f1 := r2.free (j := 1) (by simp)
  have c2 := r3.cell (j := 63) rfl
  have f2 := r3.free (j := 63) (by simp)
  have e : (((List.replicate 64 (Value.int .u8 0)).set 0 (.int .u8 ((m : Int) % 256))).set 1 (.int .u8 ((m : Int) / 256))).set 63 (.int .u8 ((m : Int) / 3 % 256)) = (sectL m).map byteV := by
    unfold sectL
    rw [List.map_set, List.map_set, List.map_set, byte07 _ (by omega), byte07 _ (by omega), byte07 _ (by omega), zeros07]
    rfl
  have hrow := r4
  rw [e] at hrow
  have hconv := run_row_string (P := Try.prog) 30 9 5 hrow (sectL_length m) Try.underlying30 Try.underlying5 Try.underlying9 64
  rw [show (⟨(sectL m).toArray⟩ : ByteArray) = S from hq] at hconv
  clear hrow r2 r3 r4
  go_wp2_with fail
  go_ret
  exact ⟨rfl, ((b1.setCell (by exact Nat.le_refl _) _).setCell (by exact Nat.le_refl _) _).setCell (by exact Nat.le_refl _) _⟩
end Go.Proofs.Ytoalckcpahnpmaa

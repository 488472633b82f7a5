/- Walks over package crc. -/
import Derived.Test.YtlefchholkkkfaaCrcRef
namespace Go.Proofs.Ytlefchholkkkfaa
open Go.RowKit

/-- the frame at the jump back -/
def atJump (c : Nat) (b : UInt8) (D : Nat) (w : World) (a' : Act) (w' : World) : Prop :=
  w = w' ∧ ∃ (Z : Int) (k E : Nat) (u11 u12 u13 u14 u15 u16 u17 u18 u19 u20 : Value),
    a' = { tmps := #[.int .i64 (E : Int), .int .u8 (b.toNat : Int), undef, undef, .int .i64 0, .int .i64 Z, .int .i64 (c : Int), .int .u8 (b.toNat : Int), .int .i64 (b.toNat : Int), .int .i64 ((b.toNat : Int) * 65536), .int .i64 (D : Int), u11, u12, u13, u14, u15, u16, u17, u18, u19, u20, undef], defers := [] } ∧
    Z + (k : Int) = 8 ∧ 1 ≤ k ∧ k ≤ 7 ∧ E = turnN k D

set_option maxRecDepth 100000 in
set_option maxHeartbeats 800000 in
theorem crc_step (c : Nat) (b : UInt8) (w : World) (hc : c < 16777216) :
    Calls Try.prog 25 #[.int .i64 (c : Int), .int .u8 (b.toNat : Int)] w fun e w' => e = .returned (.int .i64 ((stepB c b : Nat) : Int)) ∧ w = w' := by
  have hb := b.toNat_lt
  obtain ⟨D, HD⟩ : ∃ D : Nat, Hid (c ^^^ (b.toNat * 65536) = D) := ⟨_, rfl⟩
  have hD : D < 16777216 := by rw [← HD.out]; exact xor_lt24 hc (by omega)
  have hx : bits .xor .i64 (c : Int) ((b.toNat : Int) * 65536) = (D : Int) := by
    have := i64_xor_nat c (b.toNat * 65536) (by omega) (by omega)
    rw [HD.out] at this
    rw [← this]
    congr 1
  have HS : Hid (stepB c b = turnN 8 D) := by show stepB c b = _; rw [← HD.out]; rfl
  have hD0 : (0 : Int) ≤ (D : Int) := by omega
  have hD1 : (D : Int) < 16777216 := by omega
  have hc1 : (c : Int) < 16777216 := by omega
  have HDb := Lib.hid hD
  have HCb := Lib.hid hc
  clear hD hc
  go_enter Try.func25, Try.ntmps25
  go_wp2
  refine wp_scope_jumps 0 (atJump c b D w) (fun a' _ => (intOf (a'.tmps.getD 5 undef)).toNat) rfl ?_ ?_
  · by_cases hbig : 16777216 ≤ 2 * D
    · have hI : (16777216 : Int) ≤ (D : Int) * 2 := by omega
      have hx2 : bits .xor .i64 ((D : Int) * 2) 25578747 = ((turnN 1 D : Nat) : Int) := by
        have := i64_xor_nat (2 * D) 25578747 (by have := HDb.out; omega) (by omega)
        rw [show ((D : Int) * 2) = ((2 * D : Nat) : Int) by omega]
        rw [show turnN 1 D = (2 * D) ^^^ 25578747 from turn1_big D hbig]
        exact this
      go_wp2
      go_step3
      go_wp2
      go_step3
      exact ⟨rfl, rfl, 7, 1, _, _, _, _, _, _, _, _, _, _, _, rfl, by omega, by omega, by omega, rfl⟩
    · have hI : (D : Int) * 2 < 16777216 := by omega
      have hd2 : decide ((16777216 : Int) ≤ (D : Int) * 2) = false := by simp; omega
      have hx2 : (D : Int) * 2 = ((turnN 1 D : Nat) : Int) := by
        rw [show turnN 1 D = 2 * D by show turn1 D = _; unfold turn1; rw [if_neg hbig]]
        omega
      have HX2 := Lib.hid hx2
      clear hx2
      go_wp2
      go_step3
      go_wp2
      go_step3
      rw [HX2.out]
      exact ⟨rfl, rfl, 7, 1, _, _, _, _, _, _, _, _, _, _, _, rfl, by omega, by omega, by omega, rfl⟩
  · rintro a' w' ⟨rfl, Z, k, E, u11, u12, u13, u14, u15, u16, u17, u18, u19, u20, rfl, hZ, hk1, hk7, hE⟩
    have hEb : E < 16777216 := by rw [hE]; exact turnN_lt k D HDb.out
    have hEn : turn1 E = turnN (k + 1) D := by rw [hE, turnN_snoc]
    have HE := Lib.hid hE
    have HEn := Lib.hid hEn
    have HEb := Lib.hid hEb
    have hE0 : (0 : Int) ≤ (E : Int) := by omega
    have hE1 : (E : Int) < 16777216 := by omega
    clear hE hEb hEn
    by_cases hk : k = 7
    · have HK := Lib.hid hk
      obtain rfl : Z = 1 := by omega
      clear hk hZ hk1 hk7
      by_cases hbig : 16777216 ≤ 2 * E
      · have hI : (16777216 : Int) ≤ (E : Int) * 2 := by omega
        have hx2 : bits .xor .i64 ((E : Int) * 2) 25578747 = ((turn1 E : Nat) : Int) := by
          have := i64_xor_nat (2 * E) 25578747 (by have := HEb.out; omega) (by omega)
          rw [show ((E : Int) * 2) = ((2 * E : Nat) : Int) by omega]
          rw [show turn1 E = (2 * E) ^^^ 25578747 from turn1_big E hbig]
          exact this
        go_wp2
        simp only [Exit.jump]
        go_ret
        exact ⟨ret_int (by rw [HEn.out, HS.out, HK.out]), rfl⟩
      · have hI : (E : Int) * 2 < 16777216 := by omega
        have hd2 : decide ((16777216 : Int) ≤ (E : Int) * 2) = false := by simp; omega
        have HX2 : Hid ((E : Int) * 2 = ((turn1 E : Nat) : Int)) := by
          show (E : Int) * 2 = _
          rw [show turn1 E = 2 * E by unfold turn1; rw [if_neg hbig]]
          omega
        go_wp2
        simp only [Exit.jump]
        go_ret
        exact ⟨ret_int (by rw [HX2.out, HEn.out, HS.out, HK.out]), rfl⟩
    · have hZ2 : (2 : Int) ≤ Z := by omega
      have hZ7 : Z ≤ 7 := by omega
      have hd : decide ((0 : Int) < Z - 1) = true := by simp; omega
      have hd1 : decide ((1 : Int) < Z) = true := by simp; omega
      have hZ0 : (0 : Int) < Z - 1 := by omega
      have HZ := Lib.hid hZ
      have HK1 := Lib.hid hk1
      have HK6 := Lib.hid (show k ≤ 6 by omega)
      clear hZ hk1 hk7 hk
      by_cases hbig : 16777216 ≤ 2 * E
      · have hI : (16777216 : Int) ≤ (E : Int) * 2 := by omega
        have hx2 : bits .xor .i64 ((E : Int) * 2) 25578747 = ((turn1 E : Nat) : Int) := by
          have := i64_xor_nat (2 * E) 25578747 (by have := HEb.out; omega) (by omega)
          rw [show ((E : Int) * 2) = ((2 * E : Nat) : Int) by omega]
          rw [show turn1 E = (2 * E) ^^^ 25578747 from turn1_big E hbig]
          exact this
        go_wp2
        go_step3
        have hZ := HZ.out
        have hk6 := HK6.out
        refine ⟨rfl, ⟨rfl, Z - 1, k + 1, _, _, _, _, _, _, _, _, _, _, _, rfl, by omega, by omega, by omega, HEn.out⟩, ?_⟩
        simp [intOf]
        omega
      · have hI : (E : Int) * 2 < 16777216 := by omega
        have hd2 : decide ((16777216 : Int) ≤ (E : Int) * 2) = false := by simp; omega
        have HX2 : Hid ((E : Int) * 2 = ((turn1 E : Nat) : Int)) := by
          show (E : Int) * 2 = _
          rw [show turn1 E = 2 * E by unfold turn1; rw [if_neg hbig]]
          omega
        go_wp2
        go_step3
        rw [HX2.out]
        have hZ := HZ.out
        have hk6 := HK6.out
        refine ⟨rfl, ⟨rfl, Z - 1, k + 1, _, _, _, _, _, _, _, _, _, _, _, rfl, by omega, by omega, by omega, HEn.out⟩, ?_⟩
        simp [intOf]
        omega

set_option maxRecDepth 100000 in
set_option maxHeartbeats 800000 in
theorem crc_go (n : Int) (s : ByteArray) (w : World) (_hn : (Lit.int .i64 n).wf = true) (hs : s.size ≤ 1125899906842624) :
    Calls Try.prog 23 #[.int .i64 n, .string s] w fun e w' => e = .returned (.int .i64 ((goN (sumI n) (bsOf s) : Nat) : Int)) ∧ w = w' := by
  obtain ⟨c0, HC0⟩ : ∃ c0 : Nat, Hid (sumI n = c0) := ⟨_, rfl⟩
  have hc0 : c0 < 16777216 := by rw [← HC0.out]; exact sumI_lt n
  have hx : bits .and .i64 n 16777215 = (c0 : Int) := by
    rw [i64_low24, ← HC0.out]
    unfold sumI
    omega
  have HC0b := Lib.hid hc0
  clear hc0
  go_enter Try.func23, Try.ntmps23
  go_wp2
  go_loopw [0, 10] (fun c i wr => ∃ k : Nat, k ≤ s.size ∧ i = .int .i64 k ∧ c = .int .i64 ((goN c0 ((bsOf s).take k) : Nat) : Int) ∧ w = wr) (fun _ i _ => s.size - (intOf i).toNat)
  case atStart => exact ⟨0, Nat.zero_le _, rfl, rfl, rfl⟩
  case round =>
    obtain ⟨k, hk, rfl, rfl, rfl⟩ := hrel
    have hc := goN_lt ((bsOf s).take k) c0 HC0b.out
    by_cases hlt : k < s.size
    · have hkl : k < (bsOf s).length := by rw [Array.length_toList]; exact hlt
      have hsn := goN_snoc c0 (bsOf s) k ((bsOf s)[k]) (List.getElem?_eq_getElem hkl)
      have HSN := Lib.hid (show goN c0 ((bsOf s).take (k + 1)) = stepB (goN c0 ((bsOf s).take k)) s[k] from hsn)
      clear hsn
      generalize goN c0 ((bsOf s).take k) = C at *
      have HCb := Lib.hid hc
      clear hc
      go_wp2_with (go_at_call 25; refine (crc_step C s[k] _ HCb.out).mono ?_; rintro e w' ⟨rfl, rfl⟩)
      go_roundw
      case rel => exact ⟨k + 1, by omega, by first | omega | go_num, by first | rw [HSN.out] | exact int_eq (by rw [HSN.out]), by first | rfl | trivial⟩
      case measure => simp [intOf]; omega
    · go_wp2
      go_ret
      have e : k = s.size := by omega
      refine ⟨ret_int ?_, rfl⟩
      rw [HC0.out, e, List.take_of_length_le (by rw [Array.length_toList]; exact Nat.le_refl _)]

theorem crc_sum (s : ByteArray) (w : World) (hs : s.size ≤ 1125899906842624) :
    Calls Try.prog 20 #[.string s] w fun e w' => e = .returned (.int .i64 ((goN firstSum (bsOf s) : Nat) : Int)) ∧ w = w' := by
  have hc := fun w' => crc_go 11994318 s w' (by decide) hs
  rw [show sumI 11994318 = firstSum by decide] at hc
  have HC := Lib.hid hc
  clear hc
  go_enter Try.func20, Try.ntmps20
  go_wp2_with (go_at_call 23; refine (HC.out _).mono ?_; rintro e w' ⟨rfl, rfl⟩)
  go_ret
  exact ⟨rfl, rfl⟩
end Go.Proofs.Ytlefchholkkkfaa

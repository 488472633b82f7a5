/- Walks over the document's own answers for layer 2. -/
import Derived.Test.YtlefchholkkkfaaCrcRuns
namespace Go.Proofs.Ytlefchholkkkfaa
open Go.RowKit

/-- a sum that comes in, as it is taken -/
def sumI (n : Int) : Nat := (n % 16777216).toNat
theorem sumI_lt (n : Int) : sumI n < 16777216 := by unfold sumI; omega

set_option maxHeartbeats 400000 in
theorem ref02_xor (x y : Nat) (w : World) (hx : x < 33554432) (hy : y < 33554432) :
    Calls Try.prog 24 #[.int .i64 (x : Int), .int .i64 (y : Int)] w fun e w' => e = .returned (.int .i64 ((x ^^^ y : Nat) : Int)) ∧ w = w' := by
  have hfin : (x % 2 ^ 25) ^^^ (y % 2 ^ 25) = x ^^^ y := by
    rw [Nat.mod_eq_of_lt (by omega), Nat.mod_eq_of_lt (by omega)]
  have HF := Lib.hid hfin
  clear hfin
  go_enter Try.func24, Try.ntmps24
  go_wp2
  go_loop [0, 1, 5, 6, 7] (fun a b n u i => ∃ k : Nat, k ≤ 25 ∧ i = .int .i64 k ∧ n = .int .i64 (((x % 2 ^ k) ^^^ (y % 2 ^ k) : Nat) : Int) ∧ u = .int .i64 ((2 ^ k : Nat) : Int) ∧ a = .int .i64 ((x / 2 ^ k : Nat) : Int) ∧ b = .int .i64 ((y / 2 ^ k : Nat) : Int)) (fun _ _ _ _ i => 25 - (intOf i).toNat)
  case atStart => exact ⟨0, by omega, rfl, by simp [Nat.mod_one], rfl, by simp, by simp⟩
  case round =>
    obtain ⟨k, hk, rfl, rfl, rfl, rfl, rfl⟩ := hrel
    have hU : 2 ^ k ≤ 33554432 := by
      have := Nat.pow_le_pow_right (show 0 < 2 by omega) hk
      simpa using this
    have hN : (x % 2 ^ k) ^^^ (y % 2 ^ k) < 2 ^ k := Nat.xor_lt_two_pow (Nat.mod_lt _ (Nat.two_pow_pos k)) (Nat.mod_lt _ (Nat.two_pow_pos k))
    have hX : x / 2 ^ k ≤ x := Nat.div_le_self _ _
    have hY : y / 2 ^ k ≤ y := Nat.div_le_self _ _
    have hst := bit_step x y k
    have h1 : x / 2 ^ (k + 1) = x / 2 ^ k / 2 := by rw [Nat.pow_succ, Nat.div_div_eq_div_mul]
    have h2 : y / 2 ^ (k + 1) = y / 2 ^ k / 2 := by rw [Nat.pow_succ, Nat.div_div_eq_div_mul]
    have h3 : 2 ^ (k + 1) = 2 * 2 ^ k := by rw [Nat.pow_succ, Nat.mul_comm]
    have HN : k = 25 → (x % 2 ^ k) ^^^ (y % 2 ^ k) = x ^^^ y := fun h => by rw [h]; exact HF.out
    generalize hNN : (x % 2 ^ k) ^^^ (y % 2 ^ k) = N at *
    generalize hXX : x / 2 ^ k = X at *
    generalize hYY : y / 2 ^ k = Y at *
    generalize hUU : 2 ^ k = U at *
    have HST := Lib.hid hst
    have H1 := Lib.hid h1
    have H2 := Lib.hid h2
    have H3 := Lib.hid h3
    have HN' := Lib.hid HN
    clear hst h1 h2 h3 HN hNN hXX hYY hUU
    by_cases hlt : k < 25
    · by_cases hb : X % 2 = Y % 2
      · have hb' : (((X : Int) % 2) != ((Y : Int) % 2)) = false := by simp; omega
        have HB := Lib.hid hb
        clear hb
        go_wp2
        go_round
        case rel => exact ⟨k + 1, by omega, by go_num, int_eq (by rw [HST.out, if_neg (by simpa using HB.out)]; omega), int_eq (by rw [H3.out]; omega), int_eq (by rw [H1.out]; omega), int_eq (by rw [H2.out]; omega)⟩
        case measure => simp [intOf]; omega
      · have hb' : (((X : Int) % 2) != ((Y : Int) % 2)) = true := by simp; omega
        have HB := Lib.hid hb
        clear hb
        go_wp2
        go_round
        case rel => exact ⟨k + 1, by omega, by go_num, int_eq (by rw [HST.out, if_pos (by simpa using HB.out)]; omega), int_eq (by rw [H3.out]; omega), int_eq (by rw [H1.out]; omega), int_eq (by rw [H2.out]; omega)⟩
        case measure => simp [intOf]; omega
    · go_wp2
      go_ret
      exact ⟨ret_int (by rw [HN'.out (by omega)]), rfl⟩

theorem ref02_xor_int (a b : Int) (x y : Nat) (w : World) (ha : a = x) (hb : b = y) (hx : x < 33554432) (hy : y < 33554432) :
    Calls Try.prog 24 #[.int .i64 a, .int .i64 b] w fun e w' => e = .returned (.int .i64 ((x ^^^ y : Nat) : Int)) ∧ w = w' := by
  subst ha; subst hb
  exact ref02_xor x y w hx hy
theorem turn1_big (c : Nat) (h : 16777216 ≤ 2 * c) : turn1 c = (2 * c) ^^^ 25578747 := by unfold turn1; rw [if_pos h]; rfl
theorem turnN_snoc (k c : Nat) : turnN (k + 1) c = turn1 (turnN k c) := turnN_add k 1 c

set_option maxRecDepth 100000 in
set_option maxHeartbeats 800000 in
theorem ref02_go (n : Int) (s : ByteArray) (w : World) (hn : (Lit.int .i64 n).wf = true) (hs : s.size ≤ 1125899906842624) :
    Calls Try.prog 21 #[.int .i64 n, .string s] w fun e w' => e = .returned (.int .i64 ((goN (sumI n) (bsOf s) : Nat) : Int)) ∧ w = w' := by
  have hb := bounds_i64 hn
  obtain ⟨c0, HC0⟩ : ∃ c0 : Nat, Hid (sumI n = c0) := ⟨_, rfl⟩
  have hc0 : c0 < 16777216 := by rw [← HC0.out]; exact sumI_lt n
  obtain ⟨T, hT⟩ : ∃ T, n.tmod 16777216 = T := ⟨_, rfl⟩
  have hT3 : -16777216 < T ∧ T < 16777216 ∧ (T + 16777216) % 16777216 = (c0 : Int) := by
    rw [← HC0.out, ← hT]
    unfold sumI
    by_cases h : 0 ≤ n
    · rw [Int.tmod_eq_emod_of_nonneg h]
      omega
    · have h1 : n.tmod 16777216 = -((-n) % 16777216) := by
        rw [show n = -(-n) by omega, Int.neg_tmod, Int.tmod_eq_emod_of_nonneg (by omega)]
        simp
      rw [h1]
      omega
  have hT1 := hT3.1
  have hT2 := hT3.2.1
  have HT := Lib.hid hT3.2.2
  clear hT3
  go_enter Try.func21, Try.ntmps21
  go_wp2
  go_loopw [5, 6] (fun c i wr => ∃ k : Nat, k ≤ s.size ∧ i = .int .i64 k ∧ c = .int .i64 ((goN c0 ((bsOf s).take k) : Nat) : Int) ∧ w = wr) (fun _ i _ => s.size - (intOf i).toNat)
  case atStart => exact ⟨0, Nat.zero_le _, rfl, int_eq (by rw [HT.out]; rfl), rfl⟩
  case round =>
    obtain ⟨k, hk, rfl, rfl, rfl⟩ := hrel
    have hc := goN_lt ((bsOf s).take k) c0 hc0
    by_cases hlt : k < s.size
    · have hkl : k < (bsOf s).length := by rw [Array.length_toList]; exact hlt
      have hsn := goN_snoc c0 (bsOf s) k ((bsOf s)[k]) (List.getElem?_eq_getElem hkl)
      have hby : ((bsOf s)[k]).toNat < 256 := ((bsOf s)[k]).toNat_lt
      have hbe : (bsOf s)[k] = s[k] := rfl
      rw [hbe] at hsn hby
      obtain ⟨B, hB⟩ : ∃ B : Nat, s[k].toNat = B := ⟨_, rfl⟩
      have hst : goN c0 ((bsOf s).take (k + 1)) = turnN 8 (goN c0 ((bsOf s).take k) ^^^ (B * 65536)) := by rw [hsn, ← hB]; rfl
      have HST := Lib.hid hst
      rw [hB] at hby
      clear hsn hst hbe
      generalize goN c0 ((bsOf s).take k) = C at *
      have hcx : C ^^^ (B * 65536) < 16777216 := xor_lt24 hc (by omega)
      have call1 := fun (b : Int) (hb : b = ((B * 65536 : Nat) : Int)) w' => ref02_xor_int (C : Int) b C (B * 65536) w' rfl hb (by omega) (by omega)
      have C1 := Lib.hid call1
      clear call1
      generalize C ^^^ (B * 65536) = D at *
      go_wp2_with (go_at_call 24; refine (C1.out _ (by omega) _).mono ?_; rintro e w' ⟨rfl, rfl⟩)
      go_loop [5, 7] (fun c j => ∃ t : Nat, t ≤ 8 ∧ j = .int .i64 t ∧ c = .int .i64 ((turnN t D : Nat) : Int)) (fun _ j => 8 - (intOf j).toNat)
      case atStart => exact ⟨0, Nat.zero_le _, rfl, rfl⟩
      case round =>
        obtain ⟨t, ht, rfl, rfl⟩ := hrel
        have hE := turnN_lt t D hcx
        have hEn := turnN_snoc t D
        by_cases hlt2 : t < 8
        · have HE := Lib.hid hEn
          clear hEn
          generalize turnN t D = E at *
          have HEb := Lib.hid hE
          have HDb := Lib.hid hcx
          have HC0b := Lib.hid hc0
          have HCb := Lib.hid hc
          have hE0 : (0 : Int) ≤ (E : Int) := by omega
          have hE1 : (E : Int) < 16777216 := by omega
          have hd : decide ((t : Int) < 8) = true := by simp; omega
          by_cases hbig : 16777216 ≤ 2 * E
          · have HB := Lib.hid (turn1_big E hbig)
            have hI : (16777216 : Int) ≤ 2 * (E : Int) := by omega
            have call2 := fun (a : Int) (ha : a = ((2 * E : Nat) : Int)) w' => ref02_xor_int a 25578747 (2 * E) 25578747 w' ha rfl (by omega) (by omega)
            have C2 := Lib.hid call2
            clear hbig call2 hE hcx hc0 hc
            go_wp2_with (go_at_call 24; refine (C2.out _ (by omega) _).mono ?_; rintro e w' ⟨rfl, rfl⟩)
            go_round
            case rel => exact ⟨t + 1, by omega, by go_num, int_eq (by rw [HE.out, HB.out])⟩
            case measure => simp [intOf]; omega
          · have HB := Lib.hid (show turn1 E = 2 * E by unfold turn1; rw [if_neg hbig])
            have hI : 2 * (E : Int) < 16777216 := by omega
            have hd2 : decide ((16777216 : Int) ≤ 2 * (E : Int)) = false := by simp; omega
            clear hbig hE hcx hc0 hc
            go_wp2
            go_round
            case rel => exact ⟨t + 1, by omega, by go_num, int_eq (by rw [HE.out, HB.out]; omega)⟩
            case measure => simp [intOf]; omega
        · have e8 : t = 8 := by omega
          subst e8
          clear hEn
          have HD := Lib.hid HST.out.symm
          go_wp2
          go_roundw
          case rel => exact ⟨k + 1, by omega, by omega, by rw [HD.out]⟩
          case measure => simp [intOf]; omega
    · go_wp2
      go_ret
      have e : k = s.size := by omega
      refine ⟨ret_int ?_, rfl⟩
      rw [HC0.out, e, List.take_of_length_le (by rw [Array.length_toList]; exact Nat.le_refl _)]

/-- the sum that texts begin with -/
def firstSum : Nat := 11994318
theorem ref02_sum (s : ByteArray) (w : World) (hs : s.size ≤ 1125899906842624) :
    Calls Try.prog 18 #[.string s] w fun e w' => e = .returned (.int .i64 ((goN firstSum (bsOf s) : Nat) : Int)) ∧ w = w' := by
  have hc := fun w' => ref02_go 11994318 s w' (by decide) hs
  rw [show sumI 11994318 = firstSum by decide] at hc
  have HC := Lib.hid hc
  clear hc
  go_enter Try.func18, Try.ntmps18
  go_wp2_with (go_at_call 21; refine (HC.out _).mono ?_; rintro e w' ⟨rfl, rfl⟩)
  go_ret
  exact ⟨rfl, rfl⟩
end Go.Proofs.Ytlefchholkkkfaa

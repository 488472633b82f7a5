/- The statements of layer 2: walks, continued. -/
import Derived.Test.YtfbcinfhgnphaaaCrcLaws
namespace Go.Proofs.Ytfbcinfhgnphaaa
open Go.RowKit

theorem bs_cat (s t : ByteArray) : bsOf (s ++ t) = bsOf s ++ bsOf t := by simp
theorem size_cat (s t : ByteArray) : (s ++ t).size = s.size + t.size := by simp

set_option maxRecDepth 100000 in
set_option maxHeartbeats 1600000 in
/-- CrcGoes -/
theorem crcGoes_any (n : Int) (s t : ByteArray) (w : World) (hn : (Lit.int .i64 n).wf = true) (hs : s.size ≤ 140737488351232) (ht : t.size ≤ 140737488351232) :
    Holds Try.prog 4 #[.int .i64 n, .string s, .string t] w := by
  have hst : (s ++ t).size ≤ 1125899906842624 := by rw [size_cat]; omega
  obtain ⟨x, hx⟩ : ∃ x : Nat, goN (sumI n) (bsOf s) = x := ⟨_, rfl⟩
  obtain ⟨y, hy⟩ : ∃ y : Nat, goN firstSum (bsOf s) = y := ⟨_, rfl⟩
  have hxl : x < 16777216 := by rw [← hx]; exact goN_lt _ _ (sumI_lt n)
  have hyl : y < 16777216 := by rw [← hy]; exact goN_lt _ _ firstSum_lt
  have C1 := Lib.hid (fun w' => crc_go_val n (s ++ t) w' ((goN x (bsOf t) : Nat) : Int) hn hst (by rw [bs_cat, goN_append, hx]))
  have C2 := Lib.hid (fun w' => crc_go_val n s w' (x : Int) hn (by omega) (by rw [hx]))
  have C3 := Lib.hid (fun w' => crc_go_val (x : Int) t w' ((goN x (bsOf t) : Nat) : Int) (wf_sum hxl) (by omega) (by rw [sumI_nat hxl]))
  have C4 := Lib.hid (fun w' => crc_sum_val (s ++ t) w' ((goN y (bsOf t) : Nat) : Int) hst (by rw [bs_cat, goN_append, hy]))
  have C5 := Lib.hid (fun w' => crc_sum_val s w' (y : Int) (by omega) (by rw [hy]))
  have C6 := Lib.hid (fun w' => crc_go_val (y : Int) t w' ((goN y (bsOf t) : Nat) : Int) (wf_sum hyl) (by omega) (by rw [sumI_nat hyl]))
  have C7 := Lib.hid (fun w' => crc_go_val n ⟨#[]⟩ w' (n % 16777216) hn (by decide) (by
    show ((sumI n : Nat) : Int) = _
    unfold sumI
    omega))
  have hand := i64_low24 n
  obtain ⟨u, hu⟩ : ∃ u : Int, ((goN x (bsOf t) : Nat) : Int) = u := ⟨_, rfl⟩
  obtain ⟨v, hv⟩ : ∃ v : Int, ((goN y (bsOf t) : Nat) : Int) = v := ⟨_, rfl⟩
  rw [hu] at C1 C3
  rw [hv] at C4 C6
  clear hst hx hy hxl hyl hu hv hn
  unfold Holds
  go_enter Try.func4, Try.ntmps4
  go_wp2_with fail
  refine (awake02 _).mono ?_
  rintro e w1 ⟨rfl, rfl⟩
  go_wp2_with fail
  refine (C1.out _).mono ?_
  rintro e w1 ⟨rfl, rfl⟩
  go_wp2_with fail
  refine (C2.out _).mono ?_
  rintro e w1 ⟨rfl, rfl⟩
  go_wp2_with fail
  refine (C3.out _).mono ?_
  rintro e w1 ⟨rfl, rfl⟩
  go_wp2_with fail
  refine (C4.out _).mono ?_
  rintro e w1 ⟨rfl, rfl⟩
  go_wp2_with fail
  refine (C5.out _).mono ?_
  rintro e w1 ⟨rfl, rfl⟩
  go_wp2_with fail
  refine (C6.out _).mono ?_
  rintro e w1 ⟨rfl, rfl⟩
  go_wp2_with fail
  refine (C7.out _).mono ?_
  rintro e w1 ⟨rfl, rfl⟩
  go_wp2
  go_ret
  exact ⟨by simp, Below.refl _ _⟩

theorem nat_beq (x y : Nat) : (((x : Int)) == (y : Int)) = decide (x = y) := by
  rw [Bool.eq_iff_iff, beq_iff_eq, decide_eq_true_eq]
  omega

set_option maxRecDepth 100000 in
set_option maxHeartbeats 1600000 in
/-- CrcLike -/
theorem crcLike_any (a b : Int) (s : ByteArray) (w : World) (ha : (Lit.int .i64 a).wf = true) (hb : (Lit.int .i64 b).wf = true) (hs : s.size ≤ 140737488351232) :
    Holds Try.prog 7 #[.int .i64 a, .int .i64 b, .string s] w := by
  have hk := goN_inj (bsOf s) (sumI_lt a) (sumI_lt b)
  have C1 := Lib.hid (fun w' => crc_go_val a ⟨#[]⟩ w' ((sumI a : Nat) : Int) ha (by decide) rfl)
  have C2 := Lib.hid (fun w' => crc_go_val b ⟨#[]⟩ w' ((sumI b : Nat) : Int) hb (by decide) rfl)
  have C3 := Lib.hid (fun w' => crc_go_val a s w' ((goN (sumI a) (bsOf s) : Nat) : Int) ha (by omega) rfl)
  have C4 := Lib.hid (fun w' => crc_go_val b s w' ((goN (sumI b) (bsOf s) : Nat) : Int) hb (by omega) rfl)
  generalize goN (sumI a) (bsOf s) = p at *
  generalize goN (sumI b) (bsOf s) = q at *
  generalize sumI a = x at *
  generalize sumI b = y at *
  have HK := Lib.hid hk
  clear hk
  unfold Holds
  go_enter Try.func7, Try.ntmps7
  go_wp2_with fail
  refine (awake02 _).mono ?_
  rintro e w1 ⟨rfl, rfl⟩
  go_wp2_with fail
  refine (C1.out _).mono ?_
  rintro e w1 ⟨rfl, rfl⟩
  go_wp2_with fail
  refine (C2.out _).mono ?_
  rintro e w1 ⟨rfl, rfl⟩
  go_wp2_with fail
  refine (C3.out _).mono ?_
  rintro e w1 ⟨rfl, rfl⟩
  go_wp2_with fail
  refine (C4.out _).mono ?_
  rintro e w1 ⟨rfl, rfl⟩
  go_wp2
  go_ret
  refine ⟨?_, Below.refl _ _⟩
  have e : (((p : Int)) == (q : Int)) = (((x : Int)) == (y : Int)) := by rw [nat_beq, nat_beq]; exact decide_eq_decide.2 HK.out
  simp [e]
end Go.Proofs.Ytfbcinfhgnphaaa

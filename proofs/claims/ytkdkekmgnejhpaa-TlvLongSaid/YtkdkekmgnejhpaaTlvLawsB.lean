/- The statements of layer 3: walks, continued: numbers. -/
import Derived.Test.YtkdkekmgnejhpaaTlvLaws
namespace Go.Proofs.Ytkdkekmgnejhpaa
open Go.RowKit Go.ChangeShapes Go.WideShapes

theorem numS_get (n : Int) (h : numOk n) : getV (numS n) = n ∧ getE (numS n) = 0 ∧ (numS n).size ≤ 6 := by
  have e : numS n = ⟨(numL (n + 1).toNat).toArray⟩ := if_pos h
  have hb : bsOf (numS n) = numL (n + 1).toNat := by rw [e]
  have hs : (numS n).size ≤ 6 := by
    have := numL_length6 (n + 1).toNat (by have := h.2; omega)
    rw [← hb] at this
    exact this
  have hv : ((valL (bsOf (numS n)) : Nat) : Int) - 1 = n := by
    rw [hb, valL_numL]
    have := h.1
    omega
  have hg : getOk (numS n) := ⟨hs, by rw [hv]; exact h, by rw [hb, valL_numL]⟩
  exact ⟨by unfold getV; rw [if_pos hg, hv], if_pos hg, hs⟩
theorem get_num (s : ByteArray) (h : getOk s) : numS (getV s) = s ∧ numE (getV s) = 0 ∧ getE s = 0 ∧ (Lit.int .i64 (getV s)).wf = true := by
  have e : getV s = ((valL (bsOf s) : Nat) : Int) - 1 := if_pos h
  have hn : numOk (getV s) := by rw [e]; exact h.2.1
  refine ⟨?_, if_pos hn, if_pos h, WalkArith.wf_i64 ?_⟩
  · have e2 : numS (getV s) = ⟨(numL (getV s + 1).toNat).toArray⟩ := if_pos hn
    rw [e2, e, show (((valL (bsOf s) : Nat) : Int) - 1 + 1).toNat = valL (bsOf s) by omega, h.2.2]
  · have h1 := hn.1
    have h2 := hn.2
    constructor <;> omega
theorem numS_mono (n m : Int) (hn : numOk n) (hm : numOk m) (h : n ≤ m) : (numS n).size ≤ (numS m).size := by
  have e1 : numS n = ⟨(numL (n + 1).toNat).toArray⟩ := if_pos hn
  have e2 : numS m = ⟨(numL (m + 1).toNat).toArray⟩ := if_pos hm
  have := numL_mono (n + 1).toNat (m + 1).toNat (by have := hn.1; omega)
  rw [e1, e2]
  show (numL _).toArray.size ≤ (numL _).toArray.size
  simp only [List.size_toArray]
  exact this
theorem get_case (s : ByteArray) : (getV s = 0 ∧ getE s = 30) ∨ (numS (getV s) = s ∧ numE (getV s) = 0 ∧ getE s = 0 ∧ (Lit.int .i64 (getV s)).wf = true) := by
  by_cases h : getOk s
  · exact Or.inr (get_num s h)
  · exact Or.inl ⟨if_neg h, if_neg h⟩

set_option maxRecDepth 100000 in
set_option maxHeartbeats 400000 in
/-- TlvNums -/
theorem tlvNums_any (n m : Int) (s : ByteArray) (w : World) (hn : (Lit.int .i64 n).wf = true) (hm : (Lit.int .i64 m).wf = true) (hs : s.size ≤ 140737488351232) :
    Holds Try.prog 7 #[.int .i64 n, .int .i64 m, .string s] w := by
  obtain ⟨X, hX⟩ : ∃ X, getV s = X := ⟨_, rfl⟩
  obtain ⟨J, hJ⟩ : ∃ J, getE s = J := ⟨_, rfl⟩
  obtain ⟨M1, hM1⟩ : ∃ M, numS n = M := ⟨_, rfl⟩
  obtain ⟨I1, hI1⟩ : ∃ I, numE n = I := ⟨_, rfl⟩
  obtain ⟨M2, hM2⟩ : ∃ M, numS m = M := ⟨_, rfl⟩
  obtain ⟨I2, hI2⟩ : ∃ I, numE m = I := ⟨_, rfl⟩
  have C1 := Lib.hid (fun w' => tlv_num_val n w' M1 I1 hn hM1 hI1)
  have C2 := Lib.hid (fun w' => tlv_num_val m w' M2 I2 hm hM2 hI2)
  have C3 := Lib.hid (fun w' => tlv_get_val s w' X J hs hX hJ)
  have hcs := get_case s
  rw [hX, hJ] at hcs
  have hcn : (I1 = 30 ∧ M1 = ⟨#[]⟩ ∧ (decide (-1 ≤ n) = false ∨ (decide (-1 ≤ n) = true ∧ decide (n ≤ 1099511627776) = false))) ∨
      (I1 = 0 ∧ decide (-1 ≤ n) = true ∧ decide (n ≤ 1099511627776) = true ∧ getV M1 = n ∧ getE M1 = 0 ∧ M1.size ≤ 6 ∧
        (I2 = 30 ∨ (I2 = 0 ∧ decide (n ≤ m) = false) ∨ (I2 = 0 ∧ decide (n ≤ m) = true ∧ decide ((M2.size : Int) < M1.size) = false ∧ decide (M2.size < M1.size) = false))) := by
    by_cases h : numOk n
    · obtain ⟨g1, g2, g3⟩ := numS_get n h
      rw [hM1] at g1 g2 g3
      refine Or.inr ⟨by rw [← hI1]; exact if_pos h, by have := h.1; simp; omega, by have := h.2; simp; omega, g1, g2, g3, ?_⟩
      by_cases h2 : numOk m
      · have e2 : I2 = 0 := by rw [← hI2]; exact if_pos h2
        by_cases h3 : n ≤ m
        · have := numS_mono n m h h2 h3
          rw [hM1, hM2] at this
          exact Or.inr (Or.inr ⟨e2, by simp; omega, by simp; omega, by simp; omega⟩)
        · exact Or.inr (Or.inl ⟨e2, by simp; omega⟩)
      · exact Or.inl (by rw [← hI2]; exact if_neg h2)
    · refine Or.inl ⟨by rw [← hI1]; exact if_neg h, by rw [← hM1]; exact if_neg h, ?_⟩
      unfold numOk at h
      by_cases h1 : -1 ≤ n
      · exact Or.inr ⟨by simp; omega, by simp; omega⟩
      · exact Or.inl (by simp; omega)
  clear hX hJ hM1 hI1 hM2 hI2 hn hm
  have b0 := Below.refl w.heap.size w
  unfold Holds
  go_enter Try.func7, Try.ntmps7
  go_wp2_with fail
  refine (awake03 _).mono ?_
  rintro e w1 ⟨rfl, b1⟩
  go_wp2_with fail
  refine (C1.out _).mono ?_
  rintro e w2 ⟨rfl, b2⟩
  replace b2 := below_call b1 b2
  go_wp2_with fail
  refine (C2.out _).mono ?_
  rintro e w3 ⟨rfl, b3⟩
  replace b3 := below_call b2 b3
  clear C1 C2
  rcases hcn with ⟨rfl, rfl, d1 | ⟨d1, d2⟩⟩ | ⟨rfl, d1, d2, g1, g2, g3, rfl | ⟨rfl, d3⟩ | ⟨rfl, d3, d4, d5⟩⟩
  · go_wp2_with fail
    refine (C3.out _).mono ?_
    rintro e w4 ⟨rfl, b4⟩
    replace b4 := below_call b3 b4
    rcases hcs with ⟨rfl, rfl⟩ | ⟨k1, k2, rfl, k4⟩
    · go_wp2
      go_ret
      exact ⟨rfl, b4⟩
    · have C5 := Lib.hid (fun w' => tlv_num_val X w' s 0 k4 k1 k2)
      clear k1 k2 k4
      go_wp2_with fail
      refine (C5.out _).mono ?_
      rintro e w6 ⟨rfl, b6⟩
      go_wp2
      go_ret
      exact ⟨by simp, below_call b4 b6⟩
  · go_wp2_with fail
    refine (C3.out _).mono ?_
    rintro e w4 ⟨rfl, b4⟩
    replace b4 := below_call b3 b4
    rcases hcs with ⟨rfl, rfl⟩ | ⟨k1, k2, rfl, k4⟩
    · go_wp2
      go_ret
      exact ⟨rfl, b4⟩
    · have C5 := Lib.hid (fun w' => tlv_num_val X w' s 0 k4 k1 k2)
      clear k1 k2 k4
      go_wp2_with fail
      refine (C5.out _).mono ?_
      rintro e w6 ⟨rfl, b6⟩
      go_wp2
      go_ret
      exact ⟨by simp, below_call b4 b6⟩
  · have C4 := Lib.hid (fun w' => tlv_get_val _ w' n 0 (by omega) g1 g2)
    clear g1 g2
    go_wp2_with fail
    refine (C4.out _).mono ?_
    rintro e w4 ⟨rfl, b4⟩
    replace b4 := below_call b3 b4
    go_wp2_with fail
    refine (C3.out _).mono ?_
    rintro e w5 ⟨rfl, b5⟩
    replace b4 := below_call b4 b5
    rcases hcs with ⟨rfl, rfl⟩ | ⟨k1, k2, rfl, k4⟩
    · go_wp2
      go_ret
      exact ⟨rfl, b4⟩
    · have C5 := Lib.hid (fun w' => tlv_num_val X w' s 0 k4 k1 k2)
      clear k1 k2 k4
      go_wp2_with fail
      refine (C5.out _).mono ?_
      rintro e w6 ⟨rfl, b6⟩
      go_wp2
      go_ret
      exact ⟨by simp, below_call b4 b6⟩
  · have C4 := Lib.hid (fun w' => tlv_get_val _ w' n 0 (by omega) g1 g2)
    clear g1 g2
    go_wp2_with fail
    refine (C4.out _).mono ?_
    rintro e w4 ⟨rfl, b4⟩
    replace b4 := below_call b3 b4
    go_wp2_with fail
    refine (C3.out _).mono ?_
    rintro e w5 ⟨rfl, b5⟩
    replace b4 := below_call b4 b5
    rcases hcs with ⟨rfl, rfl⟩ | ⟨k1, k2, rfl, k4⟩
    · go_wp2
      go_ret
      exact ⟨rfl, b4⟩
    · have C5 := Lib.hid (fun w' => tlv_num_val X w' s 0 k4 k1 k2)
      clear k1 k2 k4
      go_wp2_with fail
      refine (C5.out _).mono ?_
      rintro e w6 ⟨rfl, b6⟩
      go_wp2
      go_ret
      exact ⟨by simp, below_call b4 b6⟩
  · have C4 := Lib.hid (fun w' => tlv_get_val _ w' n 0 (by omega) g1 g2)
    clear g1 g2
    go_wp2_with fail
    refine (C4.out _).mono ?_
    rintro e w4 ⟨rfl, b4⟩
    replace b4 := below_call b3 b4
    go_wp2_with fail
    refine (C3.out _).mono ?_
    rintro e w5 ⟨rfl, b5⟩
    replace b4 := below_call b4 b5
    rcases hcs with ⟨rfl, rfl⟩ | ⟨k1, k2, rfl, k4⟩
    · go_wp2
      go_ret
      exact ⟨rfl, b4⟩
    · have C5 := Lib.hid (fun w' => tlv_num_val X w' s 0 k4 k1 k2)
      clear k1 k2 k4
      go_wp2_with fail
      refine (C5.out _).mono ?_
      rintro e w6 ⟨rfl, b6⟩
      go_wp2
      go_ret
      exact ⟨by simp, below_call b4 b6⟩
end Go.Proofs.Ytkdkekmgnejhpaa

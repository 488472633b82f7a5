/- Walks over package plan: Split, the whole. -/
import Derived.Test.YthckkmoafobmnaaPlanCut
namespace Go.Proofs.Ythckkmoafobmnaa
open Go.RowKit Go.ChangeShapes Go.WideShapes

theorem of_nat (N S b : Nat) (h : 3 ≤ N ∧ N ≤ 6 ∧ 1 ≤ S ∧ S ≤ 8) (hb : b < S * (N - 1)) : ∃ x : Int, ∀ w : World,
    Calls Try.prog 39 #[.agg #[.int .i64 N, .int .i64 S], .int .i64 b] w fun e w' => e = .returned (.tuple #[.agg #[.int .i64 ((b / (N - 1) : Nat) : Int), .int .i64 ((b % (N - 1) : Nat) : Int), .int .i64 x], .int .i64 0]) ∧ Below w.heap.size w w' := by
  obtain ⟨h3, h6, h1, h8⟩ := h
  have em : ((N : Int) - 1) = ((N - 1 : Nat) : Int) := by omega
  have hb8 : S * (N - 1) ≤ 8 * 5 := Nat.mul_le_mul h8 (by omega)
  have hh : hasB (N : Int) (S : Int) (b : Int) = true := has_iff.2 ⟨cols_right h3 h6 ⟨by omega, by omega⟩, by omega, by
    rw [em, ← Int.natCast_mul]
    omega⟩
  refine ⟨((b : Int) / ((N : Int) - 1) + (b : Int) % ((N : Int) - 1)) % N, fun w => ?_⟩
  have := plat_of (N : Int) (S : Int) (b : Int) w (WalkArith.wf_i64 (by omega)) (WalkArith.wf_i64 (by omega)) (WalkArith.wf_i64 (by omega))
  rw [ofV_yes hh, em] at this
  rw [em, Int.natCast_ediv, Int.natCast_emod]
  exact this

theorem spot_next (a m : Nat) (hm : 0 < m) : (a % m + 1 = m ∧ (a + 1) / m = a / m + 1 ∧ (a + 1) % m = 0) ∨ (a % m + 1 ≠ m ∧ (a + 1) / m = a / m ∧ (a + 1) % m = a % m + 1) := by
  have h1 := Nat.div_add_mod a m
  have hl := Nat.mod_lt a hm
  by_cases h : a % m + 1 = m
  · left
    have e : a + 1 = m * (a / m + 1) := by rw [Nat.mul_add]; omega
    exact ⟨h, by rw [e, Nat.mul_div_cancel_left _ hm], by rw [e, Nat.mul_mod_right]⟩
  · right
    have e : a + 1 = (a % m + 1) + m * (a / m) := by omega
    refine ⟨h, ?_, ?_⟩
    · rw [e, Nat.add_mul_div_left _ _ hm, Nat.div_eq_of_lt (by omega), Nat.zero_add]
    · rw [e, Nat.add_mul_mod_self_left, Nat.mod_eq_of_lt (by omega)]

set_option maxRecDepth 100000 in
set_option maxHeartbeats 1600000 in
theorem plan_split (N S at_ count : Nat) (w : World) (h : 3 ≤ N ∧ N ≤ 6 ∧ 1 ≤ S ∧ S ≤ 8) (hc : 1 ≤ count ∧ count ≤ 4 ∧ at_ + count ≤ S * (N - 1)) :
    Calls Try.prog 25 #[.agg #[.int .i64 N, .int .i64 S], .int .i64 at_, .int .i64 count] w fun e w' => Below w.heap.size w w' ∧
      ∃ A1 c1, e = .returned (.tuple #[.slice A1 (pieces 4 (N - 1) at_ count).length c1, .int .i64 0]) ∧ Reads w' w'.heap.size A1 (3 * (pieces 4 (N - 1) at_ count).length) (pieceCells (pieces 4 (N - 1) at_ count)) := by
  obtain ⟨c1, c4, hsum⟩ := hc
  obtain ⟨x1, hof1⟩ := of_nat N S at_ h (by omega)
  obtain ⟨x2, hof2⟩ := of_nat N S (at_ + count - 1) h (by omega)
  have C1 := Lib.hid hof1
  have C2 := Lib.hid hof2
  clear hof1 hof2
  have hb8 : S * (N - 1) ≤ 8 * 5 := Nat.mul_le_mul h.2.2.2 (by omega)
  have ha : at_ + count ≤ 40 := by omega
  have ha8 : at_ + count ≤ 8 * (N - 1) := Nat.le_trans hsum (Nat.mul_le_mul_right _ h.2.2.2)
  have C3 := Lib.hid (fun (s c s' c' : Nat) w' a b d => plan_behind N s c s' c' (S : Int) w' h.1 h.2.1 ⟨by omega, by omega⟩ a b d)
  obtain ⟨m, hm⟩ : ∃ m : Nat, N - 1 = m := ⟨_, rfl⟩
  obtain ⟨h3, h6, -, -⟩ := h
  have hm2 : 2 ≤ m := by omega
  have hm5 : m ≤ 5 := by omega
  rw [hm] at C1 C2 C3 ha8 ⊢
  clear hsum hb8 hm h3 h6
  have e2 : ((at_ : Int) + count - 1) = ((at_ + count - 1 : Nat) : Int) := by omega
  obtain ⟨b, hb⟩ : ∃ b : Nat, at_ + count - 1 = b := ⟨_, rfl⟩
  rw [hb] at C2 e2
  obtain ⟨q, hq0⟩ : ∃ q, at_ / m = q := ⟨_, rfl⟩
  obtain ⟨r, hr0⟩ : ∃ r, at_ % m = r := ⟨_, rfl⟩
  rw [hq0, hr0] at C1
  have HQ := Lib.hid hq0
  have HR := Lib.hid hr0
  clear hq0 hr0
  go_enter Try.func25, Try.ntmps25
  go_wp2_with fail
  refine (C1.out _).mono ?_
  rintro e w1 ⟨rfl, b1⟩
  have G1 := ((Geo.boxed w (N : Int) (S : Int) 23).later b1).later ((Below.refl w1.heap.size w1).alloc (Nat.le_refl _) (.cells #[.int .i64 (q : Int), .int .i64 (r : Int), .int .i64 x1] 62))
  obtain ⟨_, g0, g1⟩ := (Geo.boxed w (N : Int) (S : Int) 23).later b1
  have p1 := row_new w1 [.int .i64 (q : Int), .int .i64 (r : Int), .int .i64 x1] 62
  replace b1 := below_boxed b1
  have b2 := b1.alloc b1.size (.cells #[.int .i64 (q : Int), .int .i64 (r : Int), .int .i64 x1] 62)
  clear b1
  go_wp2_with fail
  refine (C2.out _).mono ?_
  rintro e w2 ⟨rfl, b3⟩
  obtain ⟨gs, h0, h1⟩ := G1.later b3
  have p2 := p1.below b3 p1.lt
  have q0 := p2.cell (j := 0) rfl
  have q1 := p2.cell (j := 1) rfl
  replace b3 := below_call b2 b3
  clear G1 p1 g0 g1 b2 C1 C2 p2
  have e0 : floatOfInt .f64 (q : Int) = flt q := rfl
  have e1 : floatOfInt .f64 (r : Int) = flt r := rfl
  go_wp2
  go_loopw [10, 11, 47] (fun v x i wr => ∃ (k : Nat) (A' : Option Addr) (c' : Nat), k ≤ count ∧ i = .int .i64 k ∧ v = .slice A' (pieces 4 m at_ k).length c' ∧ x = .complex .f64 (flt ((at_ + k) / m)) (flt ((at_ + k) % m)) ∧ OwnP wr w2.heap.size A' (pieces 4 m at_ k).length c' (pieces 4 m at_ k) ∧ Below w2.heap.size w2 wr) (fun _ _ i _ => count - (intOf i).toNat)
  case atStart =>
    exact ⟨0, none, 0, Nat.zero_le _, rfl, rfl, by rw [Nat.add_zero, HQ.out, HR.out], OwnP.nil _ _, Below.refl _ _⟩
  case round =>
    obtain ⟨k, A', c', hk, rfl, rfl, rfl, hown, hbr⟩ := hrel
    by_cases hkc : k < count
    · have dk : decide ((k : Int) < count) = true := by simp; omega
      have hs : (at_ + k) / m < 8 := Nat.div_lt_of_lt_mul (by omega)
      have hl : (at_ + k) % m < m := Nat.mod_lt _ (by omega)
      have hnx := spot_next (at_ + k) m (by omega)
      have hpc := pieces_small m at_ k hm2 (by omega) (by omega) (by omega)
      have hgr := grow_pieces m at_ k hm2 (by omega) (by omega) (by omega)
      obtain ⟨s, hs0⟩ : ∃ s, (at_ + k) / m = s := ⟨_, rfl⟩
      obtain ⟨l, hl0⟩ : ∃ l, (at_ + k) % m = l := ⟨_, rfl⟩
      obtain ⟨s', hs1⟩ : ∃ s', (at_ + k + 1) / m = s' := ⟨_, rfl⟩
      obtain ⟨l', hl1⟩ : ∃ l', (at_ + k + 1) % m = l' := ⟨_, rfl⟩
      obtain ⟨L, hL⟩ : ∃ L, pieces 4 m at_ k = L := ⟨_, rfl⟩
      rw [hs0] at hs hnx hgr
      rw [hl0] at hl hnx hgr
      rw [hs1, hl1] at hnx
      rw [hL] at hpc hgr hown
      rw [hs0, hl0, hL]
      have C4 := Lib.hid (plan_grown L A' c' w2.heap.size s l wr hown (by omega) (fun p hp => by have := (hpc.2 p hp).2; omega) (by omega) (by omega) hbr.size)
      have C5 := Lib.hid (fun w' => C3.out s l s' l' w' (by omega) hl hnx)
      have HG := Lib.hid hgr
      have HS := Lib.hid hs1
      have HL := Lib.hid hl1
      have BR := Lib.hid hbr
      clear hs hl hnx hpc hgr hs0 hl0 hs1 hl1 hL hown hbr
      go_wp2_with fail
      refine C4.out.mono ?_
      rintro e w3 ⟨A3, c3, rfl, o3, b5⟩
      have b6 := BR.out.trans b5
      have k0 := (b6.cell (by exact gs)).trans h0
      have k1 := (b6.cell (by exact gs)).trans h1
      go_wp2_with fail
      refine (C5.out _).mono ?_
      rintro e w4 ⟨rfl, b7⟩
      have o4 := o3.later b7
      have b8 := below_then b6 b7 (Nat.le_refl _)
      have O4 := Lib.hid o4
      have B8 := Lib.hid b8
      clear o3 o4 b5 b6 b7 b8 k0 k1
      go_wp2
      go_roundw
      case rel => exact ⟨k + 1, A3, c3, by omega, by go_num, by rw [HG.out], by rw [← HS.out, ← HL.out]; rfl, by rw [HG.out]; exact O4.out, B8.out⟩
      case measure => simp [intOf]; omega
    · obtain rfl : k = count := by omega
      have dk : decide ((k : Int) < k) = false := by simp
      have O := Lib.hid hown
      clear hown
      go_wp2
      go_ret2
      exact ⟨below_call b3 hbr, A', c', rfl, O.out.reads.2⟩
end Go.Proofs.Ythckkmoafobmnaa

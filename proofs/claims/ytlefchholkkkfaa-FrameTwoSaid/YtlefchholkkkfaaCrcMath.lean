/- Plain facts about the sum of 24 bits; nothing of the program stands here. -/
import Derived.Test.YtlefchholkkkfaaLib
namespace Go.Proofs.Ytlefchholkkkfaa
open Go.RowKit

/-- the number that is put together with a sum that has outgrown 24 bits -/
def poly : Nat := 25578747
/-- one bit further -/
def turn1 (c : Nat) : Nat := if 16777216 ≤ 2 * c then (2 * c) ^^^ poly else 2 * c
def turnN : Nat → Nat → Nat
  | 0, c => c
  | n + 1, c => turnN n (turn1 c)
/-- a step with a byte -/
def stepB (c : Nat) (b : UInt8) : Nat := turnN 8 (c ^^^ (b.toNat * 65536))
/-- from a sum on -/
def goN (c : Nat) (l : List UInt8) : Nat := l.foldl stepB c

theorem goN_append (c : Nat) (s t : List UInt8) : goN c (s ++ t) = goN (goN c s) t := List.foldl_append
theorem goN_snoc (c : Nat) (l : List UInt8) (k : Nat) (b : UInt8) (h : l[k]? = some b) : goN c (l.take (k + 1)) = stepB (goN c (l.take k)) b := by
  rw [List.take_add_one, h, Option.toList_some, goN_append]
  simp only [goN, List.foldl_cons, List.foldl_nil]

theorem top_iff (c : Nat) (h : c < 16777216) : (16777216 ≤ 2 * c) ↔ c.testBit 23 = true := by
  rw [Nat.testBit_eq_decide_div_mod_eq, decide_eq_true_eq]
  have e : (2 : Nat) ^ 23 = 8388608 := rfl
  rw [e]
  omega
theorem turn1_eq (c : Nat) (h : c < 16777216) : turn1 c = (2 * c) ^^^ (if c.testBit 23 = true then poly else 0) := by
  unfold turn1
  by_cases hc : 16777216 ≤ 2 * c
  · rw [if_pos hc, if_pos ((top_iff c h).1 hc)]
  · rw [if_neg hc, if_neg (fun x => hc ((top_iff c h).2 x)), Nat.xor_zero]
theorem twice_xor (a b : Nat) : 2 * (a ^^^ b) = (2 * a) ^^^ (2 * b) := by
  have := Nat.shiftLeft_xor_distrib (a := a) (b := b) (i := 1)
  simpa [Nat.shiftLeft_eq, Nat.mul_comm] using this
theorem xor_lt24 {a b : Nat} (ha : a < 16777216) (hb : b < 16777216) : a ^^^ b < 16777216 := Nat.xor_lt_two_pow (n := 24) ha hb
theorem turn1_xor (a b : Nat) (ha : a < 16777216) (hb : b < 16777216) : turn1 (a ^^^ b) = turn1 a ^^^ turn1 b := by
  rw [turn1_eq _ (xor_lt24 ha hb), turn1_eq a ha, turn1_eq b hb, twice_xor, Nat.testBit_xor]
  cases a.testBit 23 <;> cases b.testBit 23 <;> simp
  · rw [Nat.xor_assoc]
  · rw [Nat.xor_assoc, Nat.xor_assoc, Nat.xor_comm poly]
  · have : ∀ x y p : Nat, x ^^^ y = x ^^^ p ^^^ (y ^^^ p) := fun x y p => by
      rw [Nat.xor_assoc, Nat.xor_comm p, Nat.xor_assoc, Nat.xor_self, Nat.xor_zero]
    exact this _ _ _
theorem turn1_lt (a : Nat) (h : a < 16777216) : turn1 a < 16777216 := by
  unfold turn1
  split
  · rename_i h2
    refine Nat.lt_pow_two_of_testBit (n := 24) _ fun i hi => ?_
    rw [Nat.testBit_xor]
    by_cases h24 : i = 24
    · subst h24
      have e1 : (2 * a).testBit 24 = true := by
        rw [Nat.testBit_eq_decide_div_mod_eq, decide_eq_true_eq]
        have e : (2 : Nat) ^ 24 = 16777216 := rfl
        rw [e]; omega
      have e2 : poly.testBit 24 = true := by decide
      rw [e1, e2]; rfl
    · have h25 : (2 : Nat) ^ 25 ≤ 2 ^ i := Nat.pow_le_pow_right (by omega) (by omega)
      have e : (2 : Nat) ^ 25 = 33554432 := rfl
      rw [Nat.testBit_lt_two_pow (x := 2 * a) (by omega), Nat.testBit_lt_two_pow (x := poly) (by unfold poly; omega)]
      rfl
  · omega
theorem turn1_zero (a : Nat) (h0 : turn1 a = 0) : a = 0 := by
  unfold turn1 at h0
  split at h0
  · have h1 : 2 * a = poly := by
      have := congrArg (· ^^^ poly) h0
      simpa [Nat.xor_assoc] using this
    unfold poly at h1
    omega
  · omega
theorem xor_zero_eq {a b : Nat} (h : a ^^^ b = 0) : a = b := by
  have := congrArg (· ^^^ b) h
  simpa [Nat.xor_assoc] using this
theorem turn1_inj {a b : Nat} (ha : a < 16777216) (hb : b < 16777216) (h : turn1 a = turn1 b) : a = b := by
  refine xor_zero_eq (turn1_zero _ ?_)
  rw [turn1_xor a b ha hb, h, Nat.xor_self]

theorem turnN_lt : ∀ (n a : Nat), a < 16777216 → turnN n a < 16777216
  | 0, _, h => h
  | n + 1, a, h => turnN_lt n _ (turn1_lt a h)
theorem turnN_xor : ∀ (n a b : Nat), a < 16777216 → b < 16777216 → turnN n (a ^^^ b) = turnN n a ^^^ turnN n b
  | 0, _, _, _, _ => rfl
  | n + 1, a, b, ha, hb => by
    show turnN n (turn1 (a ^^^ b)) = _
    rw [turn1_xor a b ha hb, turnN_xor n _ _ (turn1_lt a ha) (turn1_lt b hb)]
    rfl
theorem turn1_0 : turn1 0 = 0 := rfl
theorem turnN_0 : ∀ n, turnN n 0 = 0
  | 0 => rfl
  | n + 1 => turnN_0 n
theorem turnN_zero : ∀ (n a : Nat), turnN n a = 0 → a = 0
  | 0, _, h => h
  | n + 1, a, h => turn1_zero a (turnN_zero n _ h)
theorem turnN_inj (n : Nat) {a b : Nat} (ha : a < 16777216) (hb : b < 16777216) (h : turnN n a = turnN n b) : a = b := by
  refine xor_zero_eq (turnN_zero n _ ?_)
  rw [turnN_xor n a b ha hb, h, Nat.xor_self]
theorem turnN_add : ∀ (m n a : Nat), turnN (m + n) a = turnN n (turnN m a)
  | 0, n, a => by rw [Nat.zero_add]; rfl
  | m + 1, n, a => by
    rw [Nat.add_right_comm]
    exact turnN_add m n (turn1 a)

/-! ### bit by bit -/
def bitV (b : Bool) (k : Nat) : Nat := if b then 2 ^ k else 0
/-- what a run of bits is worth, its first one at place k -/
def worth : Nat → List Bool → Nat
  | _, [] => 0
  | k, b :: r => bitV b k ^^^ worth (k - 1) r
def feed (c : Nat) (b : Bool) : Nat := turn1 (c ^^^ bitV b 23)
def feeds (c : Nat) (l : List Bool) : Nat := l.foldl feed c

theorem bitV_lt (b : Bool) (k : Nat) : bitV b k < 2 ^ (k + 1) := by
  unfold bitV
  split
  · exact Nat.pow_lt_pow_right (by omega) (by omega)
  · exact Nat.two_pow_pos _
theorem worth_lt : ∀ (l : List Bool) (k : Nat), worth k l < 2 ^ (k + 1)
  | [], k => Nat.two_pow_pos _
  | b :: r, k => by
    refine Nat.xor_lt_two_pow (bitV_lt b k) (Nat.lt_of_lt_of_le (worth_lt r (k - 1)) (Nat.pow_le_pow_right (by omega) (by omega)))
theorem worth_lt24 (l : List Bool) (k : Nat) (hk : k ≤ 23) : worth k l < 16777216 := Nat.lt_of_lt_of_le (worth_lt l k) (by
  have := Nat.pow_le_pow_right (n := 2) (by omega) (show k + 1 ≤ 24 by omega)
  exact this)
theorem bitV_lt24 (b : Bool) (k : Nat) (hk : k ≤ 23) : bitV b k < 16777216 := Nat.lt_of_lt_of_le (bitV_lt b k) (by
  have := Nat.pow_le_pow_right (n := 2) (by omega) (show k + 1 ≤ 24 by omega)
  exact this)
theorem turn1_small (c : Nat) (h : c < 8388608) : turn1 c = 2 * c := by
  unfold turn1
  rw [if_neg (by omega)]
theorem worth_up : ∀ (l : List Bool) (k : Nat), l.length ≤ k + 1 → worth (k + 1) l = 2 * worth k l
  | [], _, _ => rfl
  | b :: r, k, h => by
    simp only [List.length_cons] at h
    have e : bitV b (k + 1) = 2 * bitV b k := by
      unfold bitV
      split
      · rw [Nat.pow_succ, Nat.mul_comm]
      · rfl
    simp only [worth]
    rw [twice_xor, e]
    cases r with
    | nil => simp [worth]
    | cons c r =>
      simp only [List.length_cons] at h
      obtain ⟨k', rfl⟩ : ∃ k', k = k' + 1 := ⟨k - 1, by omega⟩
      have := worth_up (c :: r) k' (by simp; omega)
      simp only [Nat.add_sub_cancel]
      rw [this]
/-- so many bits, fed: as if all had come at once -/
theorem feeds_eq : ∀ (l : List Bool) (c : Nat), c < 16777216 → l.length ≤ 24 → feeds c l = turnN l.length (c ^^^ worth 23 l)
  | [], c, _, _ => by simp [feeds, worth, turnN]
  | b :: r, c, hc, hl => by
    simp only [List.length_cons] at hl
    have h1 : c ^^^ bitV b 23 < 16777216 := xor_lt24 hc (bitV_lt24 b 23 (by omega))
    have h2 : worth 22 r < 8388608 := worth_lt r 22
    have e1 : worth 23 r = turn1 (worth 22 r) := by rw [turn1_small _ h2, ← worth_up r 22 (by omega)]
    show feeds (turn1 (c ^^^ bitV b 23)) r = _
    rw [feeds_eq r _ (turn1_lt _ h1) (by omega), e1, ← turn1_xor _ _ h1 (by omega)]
    show _ = turnN r.length (turn1 (c ^^^ (bitV b 23 ^^^ worth 22 r)))
    rw [Nat.xor_assoc]
/-- a run that is worth nothing has no bit -/
theorem worth_zero : ∀ (l : List Bool) (k : Nat), l.length ≤ k + 1 → worth k l = 0 → l = List.replicate l.length false
  | [], _, _, _ => rfl
  | b :: r, k, h, h0 => by
    simp only [List.length_cons] at h
    simp only [worth] at h0
    have hb : b = false := by
      cases b with
      | false => rfl
      | true =>
        exfalso
        have e := xor_zero_eq h0
        simp only [bitV, if_true] at e
        cases r with
        | nil => simp [worth] at e
        | cons c r =>
          simp only [List.length_cons] at h
          have := worth_lt (c :: r) (k - 1)
          rw [← e, show k - 1 + 1 = k by omega] at this
          omega
    subst hb
    simp only [bitV, Bool.false_eq_true, if_false, Nat.zero_xor] at h0
    cases r with
    | nil => rfl
    | cons c r =>
      simp only [List.length_cons] at h
      have := worth_zero (c :: r) (k - 1) (by simp; omega) h0
      rw [this]
      simp [List.replicate_succ]
end Go.Proofs.Ytlefchholkkkfaa
